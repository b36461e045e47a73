/- Layer 13: Kind, Size and Get of any memory. -/
import Derived.Test.YtilonacjmihglaaPSet
namespace Go.Proofs.Ytilonacjmihglaa
open Go Go.ChangeShapes Go.WideShapes Go.ChangeAt Go.RowKit
set_option linter.unusedVariables false
set_option linter.unusedSimpArgs false
def kAt (vs : List Int) (a : Int) : Int := if there vs a = true then hK (headAt vs a) else 0
def tAt (vs : List Int) (a : Int) : Int := if there vs a = true then hT (headAt vs a) else 0
def rAt (vs : List Int) (a : Int) : Int := if there vs a = true then hS (headAt vs a) - 2 - hT (headAt vs a) else 0
def eAt (vs : List Int) (a : Int) : Int := if there vs a = true then 0 else 1
theorem fit_head {vs : List Int} (hf : Fit vs) (a : Int) : 0 ≤ headAt vs a ∧ headAt vs a ≤ 18446744073709551615 := by
  unfold headAt; split
  · exact hf.at _
  · omega
theorem rd_form0 {w : World} {v : Value} {ws : List Int} (hr : Rd w v ws) : ∃ p c, v = .slice p ws.length c ∧ ws.length ≤ 17592186043904 := by
  rcases hr with ⟨p, rfl, rfl⟩ | ⟨b, off, c, rfl, h1, h2, h3⟩
  · exact ⟨p, 0, rfl, by simp⟩
  · exact ⟨_, c, rfl, h2⟩
set_option maxRecDepth 100000 in
set_option maxHeartbeats 1600000 in
theorem akind_any (v : Value) (ws : List Int) (tn : Nat) (a : Int) (w : World) (hr : Rd w v ws) (hf : Fit ws) (ht : tn ≤ ws.length) :
    Calls Try.prog 63 #[.agg #[v, .int .i64 tn], .int .i64 a] w fun e w' => e = .returned (.tuple #[.int .i64 (kAt (ws.take tn) a), .int .i64 (eAt (ws.take tn) a)]) ∧ Below w.heap.size w w' := by
  have HR := Lib.hid hr
  have hft := hf.take tn
  have hlen : (ws.take tn).length = tn := by rw [List.length_take]; omega
  generalize hvs : ws.take tn = vs at *
  have HF := Lib.hid hft
  have HW := Lib.hid (fit_head hft a)
  obtain ⟨p, c, rfl, hm⟩ := rd_form0 hr
  clear hf hr hft
  go_enter Try.func63, Try.ntmps63
  go_wp2_with fail
  have hV := viewof _ ws tn _ (HR.out.keep ((Below.refl w.heap.size w).alloc (Nat.le_refl _) (Obj.cells #[Value.slice p ws.length c, Value.int IntKind.i64 tn] 24))) (by omega) (by omega)
  refine hV.mono ?_
  clear hV
  rintro e w1 ⟨u, rfl, hu, hb1⟩
  rw [Int.toNat_natCast, hvs] at hu
  have HU := Lib.hid (hu.keep hb1)
  have HB1 := Lib.hid (((Below.refl w.heap.size w).alloc (Nat.le_refl _) _).trans (hb1.mono (by simp)))
  clear hu hb1 HR
  go_wp2_with fail
  refine (look_any _ _ a _ HU.out HF.out).mono ?_
  rintro e w2 ⟨rfl, hb2⟩
  have HB2 := Lib.hid (HB1.out.trans (hb2.mono HB1.out.size))
  clear hb2
  cases hth : there vs a
  · go_wp2_with fail
    go_ret2
    exact ⟨by simp [kAt, eAt, hth], HB2.out⟩
  · go_wp2_with fail
    refine (hkind _ HW.out _).mono ?_
    rintro e w3 ⟨rfl, rfl⟩
    go_wp2_with fail
    go_ret2
    exact ⟨by simp [kAt, eAt, hth], HB2.out⟩
set_option maxRecDepth 100000 in
set_option maxHeartbeats 1600000 in
theorem asize_any (v : Value) (ws : List Int) (tn : Nat) (a : Int) (w : World) (hr : Rd w v ws) (hf : Fit ws) (ht : tn ≤ ws.length) :
    Calls Try.prog 64 #[.agg #[v, .int .i64 tn], .int .i64 a] w fun e w' => e = .returned (.tuple #[.int .i64 (tAt (ws.take tn) a), .int .i64 (rAt (ws.take tn) a), .int .i64 (eAt (ws.take tn) a)]) ∧ Below w.heap.size w w' := by
  have HR := Lib.hid hr
  have hft := hf.take tn
  have hlen : (ws.take tn).length = tn := by rw [List.length_take]; omega
  generalize hvs : ws.take tn = vs at *
  have HF := Lib.hid hft
  have HW := Lib.hid (fit_head hft a)
  obtain ⟨p, c, rfl, hm⟩ := rd_form0 hr
  clear hf hr hft
  go_enter Try.func64, Try.ntmps64
  go_wp2_with fail
  have hV := viewof _ ws tn _ (HR.out.keep ((Below.refl w.heap.size w).alloc (Nat.le_refl _) (Obj.cells #[Value.slice p ws.length c, Value.int IntKind.i64 tn] 24))) (by omega) (by omega)
  refine hV.mono ?_
  clear hV
  rintro e w1 ⟨u, rfl, hu, hb1⟩
  rw [Int.toNat_natCast, hvs] at hu
  have HU := Lib.hid (hu.keep hb1)
  have HB1 := Lib.hid (((Below.refl w.heap.size w).alloc (Nat.le_refl _) _).trans (hb1.mono (by simp)))
  clear hu hb1 HR
  go_wp2_with fail
  refine (look_any _ _ a _ HU.out HF.out).mono ?_
  rintro e w2 ⟨rfl, hb2⟩
  have HB2 := Lib.hid (HB1.out.trans (hb2.mono HB1.out.size))
  clear hb2
  cases hth : there vs a
  · go_wp2_with fail
    go_ret3
    exact ⟨by simp [tAt, rAt, eAt, hth], HB2.out⟩
  · have hts := hT_lo (headAt vs a)
    have hss := hS_lo (headAt vs a)
    go_wp2_with fail
    refine (htag _ HW.out _).mono ?_
    rintro e w3 ⟨rfl, rfl⟩
    go_wp2_with fail
    refine (hsize _ HW.out _).mono ?_
    rintro e w3 ⟨rfl, rfl⟩
    go_wp2_with fail
    refine (htag _ HW.out _).mono ?_
    rintro e w3 ⟨rfl, rfl⟩
    go_wp2_with fail
    go_ret3
    exact ⟨by simp [tAt, rAt, eAt, hth], HB2.out⟩
def gV (vs : List Int) (a i : Int) : Int := if there vs a = true ∧ 0 ≤ i ∧ i < hS (headAt vs a) - 2 then vs.getD (a.toNat + 2 + i.toNat) 0 else 0
def gE (vs : List Int) (a i : Int) : Int := if there vs a = true ∧ 0 ≤ i ∧ i < hS (headAt vs a) - 2 then 0 else 1
set_option maxRecDepth 100000 in
set_option maxHeartbeats 1600000 in
theorem aget_any (v : Value) (ws : List Int) (tn : Nat) (a i : Int) (w : World) (hr : Rd w v ws) (hf : Fit ws) (ht : tn ≤ ws.length) (hi : -9223372036854775808 ≤ i ∧ i ≤ 9223372036854775807) :
    Calls Try.prog 59 #[.agg #[v, .int .i64 tn], .int .i64 a, .int .i64 i] w fun e w' => e = .returned (.tuple #[.int .u64 (gV (ws.take tn) a i), .int .i64 (gE (ws.take tn) a i)]) ∧ Below w.heap.size w w' := by
  have HR := Lib.hid hr
  have hft := hf.take tn
  have hlen : (ws.take tn).length = tn := by rw [List.length_take]; omega
  generalize hvs : ws.take tn = vs at *
  have HF := Lib.hid hft
  have HW := Lib.hid (fit_head hft a)
  obtain ⟨p, c, rfl, hm⟩ := rd_form0 hr
  clear hf hr hft
  go_enter Try.func59, Try.ntmps59
  go_wp2_with fail
  have hV := viewof _ ws tn _ (HR.out.keep ((Below.refl w.heap.size w).alloc (Nat.le_refl _) (Obj.cells #[Value.slice p ws.length c, Value.int IntKind.i64 tn] 24))) (by omega) (by omega)
  refine hV.mono ?_
  clear hV
  rintro e w1 ⟨u, rfl, hu, hb1⟩
  rw [Int.toNat_natCast, hvs] at hu
  obtain ⟨p1, c1, hp1, hm1⟩ := rd_form0 hu
  rw [hlen] at hp1 hm1
  subst hp1
  have HU := Lib.hid (hu.keep hb1)
  have HB1 := Lib.hid (((Below.refl w.heap.size w).alloc (Nat.le_refl _) _).trans (hb1.mono (by simp)))
  clear hu hb1 HR
  go_wp2_with fail
  have hw1 : w1.heap.size < (w1.alloc (Obj.cells #[Value.slice p1 tn c1] 95)).heap.size := by simp
  refine (look_any _ _ a _ (HU.out.keep ((Below.refl w1.heap.size w1).alloc (Nat.le_refl _) (Obj.cells #[Value.slice p1 tn c1] 95))) HF.out).mono ?_
  rintro e w2 ⟨rfl, hb2⟩
  have hv2 : w2.cell? ⟨w1.heap.size, 0, none⟩ = some (.slice p1 tn c1) := below_cell hb2 (by simp)
  have HB2 := Lib.hid ((HB1.out.alloc HB1.out.size (Obj.cells #[Value.slice p1 tn c1] 95)).trans (hb2.mono (by have := HB1.out.size; simp; omega)))
  have hs2 : w1.heap.size < w2.heap.size := by have := hb2.size; omega
  have HU2 := Lib.hid (HU.out.keep (((Below.refl w1.heap.size w1).alloc (Nat.le_refl _) (Obj.cells #[Value.slice p1 tn c1] 95)).trans (hb2.mono (by simp))))
  clear hb2
  cases hth : there vs a
  · go_wp2_with fail
    go_ret2
    exact ⟨by simp [gV, gE, hth], HB2.out⟩
  · have HIN := Lib.hid (there_in hth)
    have hss := hS_lo (headAt vs a)
    go_wp2_with fail
    refine (hhas _ i HW.out hi _).mono ?_
    rintro e w3 ⟨rfl, rfl⟩
    by_cases hc : 0 ≤ i ∧ i < hS (headAt vs a) - 2
    · have hdd : (decide (0 ≤ i) && decide (i < hS (headAt vs a) - 2)) = true := by simp [hc.1, hc.2]
      obtain ⟨A, rfl⟩ := Int.eq_ofNat_of_zero_le (by have := HIN.out.1; omega : 0 ≤ a)
      obtain ⟨I, rfl⟩ := Int.eq_ofNat_of_zero_le hc.1
      have HG := Lib.hid (show gV vs A I = vs.getD (A + 2 + I) 0 ∧ gE vs A I = 0 by unfold gV gE; rw [if_pos ⟨hth, hc⟩, if_pos ⟨hth, hc⟩]; simp)
      rw [hdd]
      have hq : A + 2 + I < vs.length := by have := HIN.out.2.1; omega
      obtain ⟨b1, o1, hp1, hcell⟩ : ∃ b o, p1 = some ⟨b, o, none⟩ ∧ w2.cell? ⟨b, o + (A + 2 + I), none⟩ = some (.int .u64 (vs.getD (A + 2 + I) 0)) := by
        rcases HU2.out with ⟨p, h, h'⟩ | ⟨b', off', c', h, h2, h3, h4⟩
        · exact absurd (congrArg List.length h') (by rw [hlen]; simp; omega)
        · simp only [Value.slice.injEq] at h
          exact ⟨b', off', h.1, h4 _ hq⟩
      subst hp1
      have hqz : (A : Int) + 2 + (I : Int) < (tn : Int) := by omega
      generalize vs.getD (A + 2 + I) 0 = z at hcell HG
      clear HIN hss HW HF HU HU2
      go_wp2_with fail
      go_ret2
      exact ⟨by simp [HG.out.1, HG.out.2], HB2.out⟩
    · have hdd : (decide (0 ≤ i) && decide (i < hS (headAt vs a) - 2)) = false := by rw [Bool.and_eq_false_iff, decide_eq_false_iff_not, decide_eq_false_iff_not]; omega
      have HG := Lib.hid (show gV vs a i = 0 ∧ gE vs a i = 1 by unfold gV gE; rw [if_neg (fun h => hc h.2), if_neg (fun h => hc h.2)]; simp)
      rw [hdd]
      go_wp2_with fail
      go_ret2
      exact ⟨by simp [HG.out.1, HG.out.2], HB2.out⟩
end Go.Proofs.Ytilonacjmihglaa
