/- Layer 2: the reference's Times. -/
import Derived.Test.YtapeomcnjjfihaaDoorWMulMath
import Derived.Test.YtapeomcnjjfihaaDoorWRefOf
import Derived.Test.YtapeomcnjjfihaaDoorWRefAdd
import Derived.Test.YtapeomcnjjfihaaDoorWMul
import Derived.Deep.CutBlock
namespace Go.Proofs.YtapeomcnjjfihaaDoor
open Go.ChangeShapes Go.WideShapes Go.ChangeAt Go.RowKit
set_option linter.unusedVariables false
set_option linter.unusedSimpArgs false
theorem infoInt : (Tryd.prog.info? 3).map (fun i => (i.zero, i.size, i.bytes)) = some (some (.int .i64 0), 1, 8) := by kernel_rfl
abbrev LI (w : World) (g : Nat) (ws : List Int) : Prop := LR .i64 3 w g ws
theorem low_cell {w w3 wr : World} {b o : Nat} {v : Value} (hb : Below (w.heap.size + 1 + 1 + 1) w3 wr) (hl : b < w.heap.size) (h : w3.cell? ⟨b, o, none⟩ = some v) : wr.cell? ⟨b, o, none⟩ = some v :=
  (World.cell?_of_block (a := ⟨b, o, none⟩) (hb.block b (by omega))).trans h
theorem Bx3.low {w w3 wr : World} {n1 n2 : Bool} {u1 u2 : Value} (h : Bx3 w3 w.heap.size n1 u1 n2 u2) (hb : ∀ q, q < w.heap.size + 1 + 1 + 1 → wr.heap[q]? = w3.heap[q]?) :
    wr.cell? ⟨w.heap.size, 0, none⟩ = some (.bool n1) ∧ wr.cell? ⟨w.heap.size, 1, none⟩ = some u1 ∧ wr.cell? ⟨w.heap.size + 1, 0, none⟩ = some (.bool n2) ∧ wr.cell? ⟨w.heap.size + 1, 1, none⟩ = some u2 :=
  ⟨(World.cell?_of_block (a := ⟨w.heap.size, 0, none⟩) (hb _ (by simp; omega))).trans h.x0, (World.cell?_of_block (a := ⟨w.heap.size, 1, none⟩) (hb _ (by simp; omega))).trans h.x1,
    (World.cell?_of_block (a := ⟨w.heap.size + 1, 0, none⟩) (hb _ (by simp))).trans h.y0, (World.cell?_of_block (a := ⟨w.heap.size + 1, 1, none⟩) (hb _ (by simp))).trans h.y1⟩
theorem Bx3.low2 {w w3 wr : World} {n1 n2 : Bool} {u1 u2 : Value} (h : Bx3 w3 w.heap.size n1 u1 n2 u2) (hb : ∀ q, q < w.heap.size + 1 + 1 + 1 → wr.heap[q]? = w3.heap[q]?) :
    wr.cell? ⟨w.heap.size + 1 + 1, 0, none⟩ = some (.bool false) ∧ wr.cell? ⟨w.heap.size + 1 + 1, 1, none⟩ = some (.slice none 0 0) ∧ wr.frozen? ⟨w.heap.size + 1 + 1, 0, none⟩ = false ∧ wr.frozen? ⟨w.heap.size + 1 + 1, 1, none⟩ = false :=
  ⟨(World.cell?_of_block (a := ⟨w.heap.size + 1 + 1, 0, none⟩) (hb _ (by simp))).trans h.r0, (World.cell?_of_block (a := ⟨w.heap.size + 1 + 1, 1, none⟩) (hb _ (by simp))).trans h.r1,
    (World.frozen?_of_block (a := ⟨w.heap.size + 1 + 1, 0, none⟩) (hb _ (by simp))).trans h.f0, (World.frozen?_of_block (a := ⟨w.heap.size + 1 + 1, 1, none⟩) (hb _ (by simp))).trans h.f1⟩
set_option maxRecDepth 100000 in
set_option maxHeartbeats 8000000 in
theorem times_any (n1 : Bool) (u1 : Value) (xs : List Int) (z1 : Int) (n2 : Bool) (u2 : Value) (ys : List Int) (z2 : Int) (w : World) (hr1 : Rb w u1 xs) (hr2 : Rb w u2 ys) (hs1 : Sgn 10 n1 xs z1) (hs2 : Sgn 10 n2 ys z2) (hl1 : xs.length ≤ 900) (hl2 : ys.length ≤ 900) :
    Calls Tryd.prog 39 #[.agg #[.bool n1, u1], .agg #[.bool n2, u2]] w (NumPost w (z1 * z2)) := by
  obtain ⟨i0, hi, hz0, hz1, hz2⟩ := info_parts infoU8
  obtain ⟨p1, c1, rfl, _, _, hp1⟩ := rb_form hr1
  obtain ⟨p2, c2, rfl, _, _, hp2⟩ := rb_form hr2
  have HP1 := Lib.hid hp1
  have HP2 := Lib.hid hp2
  have HS1 := Lib.hid hs1
  have HS2 := Lib.hid hs2
  have hmk := run_make_row' (P := Tryd.prog) 94 3 (.int .i64 0) 8 Tryd.underlying94 infoInt rfl .i64 .i64 (xs.length + ys.length + 1) (by omega) (by omega)
  rw [show ((xs.length + ys.length + 1 : Nat) : Int) = (xs.length : Int) + (ys.length : Int) + 1 by omega] at hmk
  clear hr1 hr2 hs1 hs2 hp1 hp2
  go_enter Tryd.func39, Tryd.ntmps39
  go_wp2_with fail
  generalize hw2 : World.alloc (World.alloc (World.alloc w _) _) _ = w2
  have hbx : Bx3 w2 w.heap.size n1 (.slice p1 xs.length c1) n2 (.slice p2 ys.length c2) := by
    rw [← hw2]
    exact ⟨alloc_cell (alloc_cell (by simp) _) _, alloc_cell (alloc_cell (by simp) _) _, alloc_cell (by simp) _, alloc_cell (by simp) _, third_cell _ _ _ _ _ 0, third_cell _ _ _ _ _ 1, third_fr _ _ _ _ _ 0, third_fr _ _ _ _ _ 1, by simp⟩
  have HB2 := Lib.hid (show Below w.heap.size w w2 by rw [← hw2]; exact (((Below.refl _ _).alloc (Nat.le_refl _) _).alloc (by simp) _).alloc (by simp; omega) _)
  have hsz : w2.heap.size = w.heap.size + 1 + 1 + 1 := by rw [← hw2]; simp
  clear hw2
  generalize hw3 : World.alloc w2 _ = w3
  have hb3 : Below w2.heap.size w2 w3 := by rw [← hw3]; exact (Below.refl _ _).alloc (Nat.le_refl _) _
  have HG3 := Lib.hid (show LI w3 (w.heap.size + 1 + 1 + 1) (List.replicate (xs.length + ys.length + 1) 0) by rw [← hw3, ← hsz]; exact LR.made (k := .i64) (T := 3) w2 (xs.length + ys.length + 1))
  have HB3 := Lib.hid (HB2.out.trans (hb3.mono HB2.out.size))
  have HX3 := Lib.hid (hbx.keep hb3)
  have hg3 := HG3.out.lt
  clear hw3 hb3 hbx HB2 hmk hsz
  go_loopw [6] (fun s wr => ∃ (i : Nat) (S : List Int), s = .int .i64 i ∧ i ≤ xs.length ∧ TmOut xs ys S i ∧ LI wr (w.heap.size + 1 + 1 + 1) S ∧ Below (w.heap.size + 1 + 1 + 1) w3 wr) (fun s _ => xs.length - (intOf s).toNat)
  case atStart => exact ⟨0, _, by go_num, by omega, TmOut.start xs ys, HG3.out, Below.refl _ _⟩
  case round =>
    obtain ⟨i, S, rfl, hi', hS, hL, hB⟩ := hrel
    obtain ⟨wo, rfl⟩ : ∃ wo : World, wo = wr := ⟨_, rfl⟩
    have HSo := Lib.hid hS
    have HLo := Lib.hid hL
    have HBo := Lib.hid hB
    have q1 := HX3.out.low hB.block
    have a0 := q1.1
    have a1 := q1.2.1
    have a2 := q1.2.2.1
    have a3 := q1.2.2.2
    clear hS hL hB q1
    by_cases hlt : i < xs.length
    · have hiz : (i : Int) < (xs.length : Int) := by omega
      go_wp2_with fail
      go_loopw [7] (fun s wr => ∃ (k : Nat) (S : List Int), s = .int .i64 k ∧ k ≤ ys.length ∧ TmIn xs ys S i k ∧ LI wr (w.heap.size + 1 + 1 + 1) S ∧ Below (w.heap.size + 1 + 1 + 1) w3 wr) (fun s _ => ys.length - (intOf s).toNat)
      case atStart => exact ⟨0, _, by go_num, by omega, HSo.out.enter, HLo.out, HBo.out⟩
      case round =>
        obtain ⟨k, S2, rfl, hk, hS2, hL2, hB2⟩ := hrel
        have HS := Lib.hid hS2
        have HL := Lib.hid hL2
        have HB := Lib.hid hB2
        have hol := hS2.len
        have q1 := HX3.out.low hB2.block
        have b0 := q1.1
        have b1 := q1.2.1
        have b2 := q1.2.2.1
        have b3 := q1.2.2.2
        clear hS2 hL2 hB2 a0 a1 a2 a3 q1
        by_cases hltk : k < ys.length
        · have hkz : (k : Int) < (ys.length : Int) := by omega
          obtain ⟨bb1, o1, rfl, hca⟩ := HP1.out (by omega)
          obtain ⟨bb2, o2, rfl, hcb⟩ := HP2.out (by omega)
          have ka := low_cell HB.out (World.block_lt_of_cell? w ⟨bb1, _, none⟩ (hca i hlt)) (below_cell HB3.out (hca i hlt))
          have kb := low_cell HB.out (World.block_lt_of_cell? w ⟨bb2, _, none⟩ (hcb k hltk)) (below_cell HB3.out (hcb k hltk))
          have ko := HL.out.cell (i := i + k) (by omega)
          have hfr := HL.out.frozen (i + k)
          have hba := HS1.out.canon.1 i
          have hbb := HS2.out.canon.1 k
          have hbo := HS.out.lo (i + k)
          have hbn := HS.out.new (i + k) (Nat.le_refl _)
          have hdm := digit_mul hba hbb
          have hN := HS.out.step HS1.out.canon.1 HS2.out.canon.1 hlt hltk
          generalize xs.getD i 0 = x at ka hba hdm hN
          generalize ys.getD k 0 = y at kb hbb hdm hN
          generalize S2.getD (i + k) 0 = z at ko hbo hbn hN
          obtain ⟨m, hm⟩ : ∃ m, x * y = m := ⟨_, rfl⟩
          rw [hm] at hdm hN
          have HN := Lib.hid hN
          have hij : (i : Int) + (k : Int) < (xs.length : Int) + (ys.length : Int) + 1 := by omega
          have hij0 : (0 : Int) ≤ (i : Int) + (k : Int) := by omega
          have hwij : IntKind.i64.wrap ((i : Int) + (k : Int)) = (i : Int) + (k : Int) := by rw [IntKind.wrap_i64]; omega
          have htn : ((i : Int) + (k : Int)).toNat = i + k := by omega
          have hwm : IntKind.i64.wrap m = m := by rw [IntKind.wrap_i64]; omega
          have hwz : IntKind.i64.wrap (z + m) = z + m := by rw [IntKind.wrap_i64]; omega
          have hijn : i + k < xs.length + ys.length + 1 := by omega
          clear hca hcb hN
          go_wp2_with fail
          go_region
          go_wp2_with fail
          go_roundw
          case rel => exact ⟨k + 1, _, by go_num, by omega, HN.out, HL.out.set (i + k) (z + m), (HB.out.drew).setCell (Nat.le_refl _) _⟩
          case measure => simp [intOf]; omega
        · obtain rfl : k = ys.length := by omega
          have HE := Lib.hid HS.out.leave
          go_wp2_with fail
          go_roundw
          case rel => exact ⟨i + 1, _, by go_num, by omega, HE.out, HL.out, HB.out⟩
          case measure => simp [intOf]; omega
    · obtain rfl : i = xs.length := by omega
      have hlen := HSo.out.len
      have HV := Lib.hid (HSo.out.done)
      have HLW := Lib.hid (show ∀ j, 0 ≤ S.getD j 0 ∧ S.getD j 0 ≤ 81000 from fun j => ⟨HSo.out.lo j, by have := HSo.out.hi j; omega⟩)
      go_upto_block 4 with (fail)
      go_wp2
      have hSl := hlen
      go_loopw [8, 9, 10] (fun v cv s wr => ∃ (i : Nat) (c : Int) (os : List Int), s = .int .i64 i ∧ cv = .int .i64 c ∧ i ≤ S.length ∧ TcSt S os i c ∧ OB wr wo.heap.size v os ∧ Below wo.heap.size wo wr) (fun _ _ s _ => S.length - (intOf s).toNat)
      case atStart => exact ⟨0, 0, [], by go_num, by go_num, by omega, TcSt.start S, OW.nil _ _, Below.refl _ _⟩
      case round =>
        obtain ⟨i, c, os, rfl, rfl, hi2, hS, hO, hB⟩ := hrel
        have HS := Lib.hid hS
        have HO := Lib.hid hO
        have HB := Lib.hid hB
        have hclo := hS.lo
        have hchi := hS.hi
        have hol := hS.len
        have HOL := Lib.hid hol
        clear hS hO hB hol
        by_cases hlt2 : i < S.length
        · have hiz : (i : Int) < (xs.length : Int) + (ys.length : Int) + 1 := by omega
          have ks := (LR.keep HLo.out HB.out).cell (i := i) hlt2
          have hsb := HLW.out i
          have HN := Lib.hid (HS.out.step hsb.1 hsb.2)
          generalize S.getD i 0 = t at ks hsb HN
          have hin : i < xs.length + ys.length + 1 := by omega
          go_wp2_with (at_builtin; refine wpList_append_own _ rfl _ _ 30 rfl wo.heap.size 5 i0 (.int .u8 0) 1 1 Tryd.underlying30 hi hz0 hz1 hz2 rfl (by decide) _ _ _ rfl (World.ownsRow.alloc HO.out _) ⟨wr.heap.size, 0, none⟩ 1 1 [.int .u8 ((c + t) % 10)] rfl rfl (one_newO _ _ _) (by simp [Value.oneCell']) (by unfold maxLen; have := HOL.out; omega) (by have := HOL.out; omega) (by have := HB.out.size; simp; omega) ?_; intro v' w4 hown' hgrow _)
          have HOn := Lib.hid (OW.snoc hown')
          have HBn := Lib.hid (HO.out.grown HB.out hgrow (Nat.le_refl _))
          clear hown' hgrow
          go_wp2
          go_roundw
          case rel => exact ⟨i + 1, _, _, by go_num, rfl, by omega, HN.out, HOn.out, HBn.out⟩
          case measure => simp [intOf]; omega
        · obtain rfl : i = S.length := by omega
          have hltz : ¬ ((S.length : Nat) : Int) < (xs.length : Int) + (ys.length : Int) + 1 := by omega
          have hrb := HO.out.rb (by have := HOL.out; omega)
          have HM := Lib.hid HO.out.mine
          obtain ⟨p, cc, rfl, _, _, _⟩ := rb_form hrb
          have HRB := Lib.hid hrb
          have HVV := Lib.hid (HS.out.done HV.out (by rw [hlen]; exact prod_lt HS1.out.canon.1 HS2.out.canon.1))
          have HBT := Lib.hid (HBo.out.trans (HB.out.mono (show w.heap.size + 1 + 1 + 1 ≤ wo.heap.size by have := HBo.out.size; omega)))
          have HBR := Lib.hid (HB3.out.trans (HBT.out.mono (by omega)))
          have q1 := HX3.out.low HBT.out.block
          have q2 := HX3.out.low2 HBT.out.block
          have b0 := q1.1
          have b2 := q1.2.2.1
          have r0 := q2.1
          have r1 := q2.2.1
          have f0 := q2.2.2.1
          have f1 := q2.2.2.2
          have hlo := HLo.out.lt
          have HDO := Lib.hid HS.out.dig
          have HCUT := Lib.hid (fun (wx : World) (hx : Below wr.heap.size wr wx) => cut_any p cc os wx (HRB.out.keep hx))
          clear hrb q1 q2 a0 a1 a2 a3 hclo hchi
          go_wp2_with fail
          refine (HCUT.out _ (Below.refl _ _)).mono ?_
          rintro e w5 ⟨kk, hkk, rfl, rfl⟩
          have HKK := Lib.hid hkk
          have HC := Lib.hid (hkk.canon (b := 10) (by decide) HDO.out)
          have HZ := Lib.hid (show z1 * z2 = sg (n1 != n2) (val 10 (os.take kk)) by rw [HC.out.2.1, HVV.out, sg_mul, ← HS1.out.eq, ← HS2.out.eq])
          have hlo3 : w.heap.size + 1 + 1 < wo.heap.size := by omega
          clear hkk
          cases n1 with
          | false =>
            cases n2 with
            | false =>
              go_wp2_with fail
              have zz := two_setW (x0 := .bool false) (x1 := .slice p kk cc) r0 r1
              refine bodyPost_ret (v := .agg #[.bool false, .slice p kk cc]) (by simp [results, Tryd.results39, go_sem, zz.1, zz.2]) rfl ⟨false, _, _, rfl, ((HM.out.cut HKK.out.1).set2 hlo3 _ _).rb (by rw [HC.out.2.2]; have := HKK.out.1; have := HOL.out; omega), ?_, (HBR.out.setCell (by first | omega | (simp; omega) | (simp; done)) _).setCell (by first | omega | (simp; omega) | (simp; done)) _⟩
              exact ⟨HC.out.1, (fun h => by cases h), HZ.out⟩
            | true =>
              by_cases hk0 : kk = 0
              · subst hk0
                go_wp2_with fail
                have zz := two_setW (x0 := .bool false) (x1 := .slice p 0 cc) r0 r1
                refine bodyPost_ret (v := .agg #[.bool false, .slice p 0 cc]) (by simp [results, Tryd.results39, go_sem, zz.1, zz.2]) rfl ⟨false, _, _, rfl, ((HM.out.cut HKK.out.1).set2 hlo3 _ _).rb (by rw [HC.out.2.2]; have := HKK.out.1; have := HOL.out; omega), ?_, (HBR.out.setCell (by first | omega | (simp; omega) | (simp; done)) _).setCell (by first | omega | (simp; omega) | (simp; done)) _⟩
                refine ⟨HC.out.1, (fun h => by cases h), ?_⟩
                rw [HZ.out]
                simp [sg, val]
              · have hkp : (0 : Int) < (kk : Int) := by omega
                have hkq : 0 < kk := by omega
                go_wp2_with fail
                have zz := two_setW (x0 := .bool true) (x1 := .slice p kk cc) r0 r1
                refine bodyPost_ret (v := .agg #[.bool true, .slice p kk cc]) (by simp [results, Tryd.results39, go_sem, zz.1, zz.2]) rfl ⟨true, _, _, rfl, ((HM.out.cut HKK.out.1).set2 hlo3 _ _).rb (by rw [HC.out.2.2]; have := HKK.out.1; have := HOL.out; omega), ?_, (HBR.out.setCell (by first | omega | (simp; omega) | (simp; done)) _).setCell (by first | omega | (simp; omega) | (simp; done)) _⟩
                exact ⟨HC.out.1, fun _ => by rw [HC.out.2.2]; omega, HZ.out⟩
          | true =>
            cases n2 with
            | false =>
              by_cases hk0 : kk = 0
              · subst hk0
                go_wp2_with fail
                have zz := two_setW (x0 := .bool false) (x1 := .slice p 0 cc) r0 r1
                refine bodyPost_ret (v := .agg #[.bool false, .slice p 0 cc]) (by simp [results, Tryd.results39, go_sem, zz.1, zz.2]) rfl ⟨false, _, _, rfl, ((HM.out.cut HKK.out.1).set2 hlo3 _ _).rb (by rw [HC.out.2.2]; have := HKK.out.1; have := HOL.out; omega), ?_, (HBR.out.setCell (by first | omega | (simp; omega) | (simp; done)) _).setCell (by first | omega | (simp; omega) | (simp; done)) _⟩
                refine ⟨HC.out.1, (fun h => by cases h), ?_⟩
                rw [HZ.out]
                simp [sg, val]
              · have hkp : (0 : Int) < (kk : Int) := by omega
                have hkq : 0 < kk := by omega
                go_wp2_with fail
                have zz := two_setW (x0 := .bool true) (x1 := .slice p kk cc) r0 r1
                refine bodyPost_ret (v := .agg #[.bool true, .slice p kk cc]) (by simp [results, Tryd.results39, go_sem, zz.1, zz.2]) rfl ⟨true, _, _, rfl, ((HM.out.cut HKK.out.1).set2 hlo3 _ _).rb (by rw [HC.out.2.2]; have := HKK.out.1; have := HOL.out; omega), ?_, (HBR.out.setCell (by first | omega | (simp; omega) | (simp; done)) _).setCell (by first | omega | (simp; omega) | (simp; done)) _⟩
                exact ⟨HC.out.1, fun _ => by rw [HC.out.2.2]; omega, HZ.out⟩
            | true =>
              go_wp2_with fail
              have zz := two_setW (x0 := .bool false) (x1 := .slice p kk cc) r0 r1
              refine bodyPost_ret (v := .agg #[.bool false, .slice p kk cc]) (by simp [results, Tryd.results39, go_sem, zz.1, zz.2]) rfl ⟨false, _, _, rfl, ((HM.out.cut HKK.out.1).set2 hlo3 _ _).rb (by rw [HC.out.2.2]; have := HKK.out.1; have := HOL.out; omega), ?_, (HBR.out.setCell (by first | omega | (simp; omega) | (simp; done)) _).setCell (by first | omega | (simp; omega) | (simp; done)) _⟩
              exact ⟨HC.out.1, (fun h => by cases h), HZ.out⟩
end Go.Proofs.YtapeomcnjjfihaaDoor
