/- The contract of Objects: the addresses of all objects, where the memory is in form; nothing else changes. -/
import Derived.Test.YtfhjpgbnojdlkaaPGRefAll
namespace Go.Proofs.Ytfhjpgbnojdlkaa
open Go.ChangeShapes Go.WideShapes Go.ChangeAt Go.RowKit
set_option linter.unusedVariables false
set_option linter.unusedSimpArgs false
def ObjPost (W : World) (ws : List Int) (top : Int) (e : Ending) (w' : World) : Prop :=
  Below W.heap.size W w' ∧ ∃ u, e = .returned u ∧ w'.ownsRow W.heap.size 3 1 u (objList ws top).length (natVals (objList ws top))
theorem ObjPost.no {W w' : World} {ws : List Int} {top : Int} (h : memOk ws top = false) (hb : Below W.heap.size W w') : ObjPost W ws top (.returned (.slice none 0 0)) w' := by
  have e : objList ws top = [] := by unfold objList; rw [h]; rfl
  refine ⟨hb, .slice none 0 0, rfl, ?_⟩
  rw [e]
  exact World.ownsRow_nil _ _ _ _
theorem ObjPost.yes {W w' : World} {ws : List Int} {n : Nat} {l : List Nat} {u : Value} (hm : memOk ws n = true) (hs : scan (ws.take n) 1 = some l) (hb : Below W.heap.size W w') (ho : w'.ownsRow W.heap.size 3 1 u l.length (natVals l)) :
    ObjPost W ws n (.returned u) w' := by
  have e : objList ws n = l := by unfold objList; rw [hm, Int.toNat_natCast, hs]; rfl
  refine ⟨hb, u, rfl, ?_⟩
  rw [e]
  exact ho
/-- The state of the loop. -/
structure OS (w : World) (n : Nat) (uv : Value) (vs : List Int) (l : List Nat) (B k : Nat) (done rest : List Nat) (lv : Value) (wr : World) : Prop where
  split : l = done ++ rest
  rest : scan vs k = some rest
  one : 1 ≤ k
  le : k ≤ n
  len : done.length ≤ k
  box1 : wr.cell? ⟨w.heap.size, 1, none⟩ = some (.int .i64 n)
  view : wr.cell? ⟨B, 0, none⟩ = some uv
  bge : w.heap.size < B
  own : wr.ownsRow (B + 1) 3 1 lv done.length (natVals done)
  below : Below w.heap.size w wr
  lt : B < wr.heap.size
theorem OS.keep {w : World} {n : Nat} {uv : Value} {vs : List Int} {l : List Nat} {B k : Nat} {done rest : List Nat} {lv : Value} {wr w1 : World} (h : OS w n uv vs l B k done rest lv wr) (hb : Below wr.heap.size wr w1) : OS w n uv vs l B k done rest lv w1 :=
  ⟨h.split, h.rest, h.one, h.le, h.len, below_cell hb h.box1, below_cell hb h.view, h.bge, h.own.kept (row := none) ⟨hb.os, hb.tape, hb.output, hb.size, fun k hk _ => hb.block k hk⟩ (by cases lv.ownBlock <;> simp), h.below.trans (hb.mono h.below.size), Nat.lt_of_lt_of_le h.lt hb.size⟩
theorem OS.next {w : World} {n : Nat} {uv : Value} {vs : List Int} {l : List Nat} {B k : Nat} {done rest rest' : List Nat} {lv : Value} {w1 : World} (h : OS w n uv vs l B k done rest lv w1) (hr : rest = k :: rest') (hn : vs.length = n) (ho : okAt vs k = true) (hrest : scan vs (k + sz vs k) = some rest') (O2 : Obj)
    (v' : Value) (w3 : World) (hown : w3.ownsRow (B + 1) 3 1 v' (done.length + 1) (natVals done ++ [.int .i64 (k : Int)])) (hg : (w1.alloc O2).grownBy w3 lv.ownBlock) : OS w n uv vs l B (k + sz vs k) (done ++ [k]) rest' v' w3 := by
  have hlt := h.own.lt
  have hsz := okAt_sz ho
  have hne : ∀ x, x < B + 1 → some x ≠ lv.ownBlock := fun x hx e => by have := hlt x e.symm; omega
  refine ⟨by rw [h.split, hr, List.append_assoc]; rfl, hrest, by have := h.one; omega, by rw [← hn]; exact hsz.2.2.1, by rw [List.length_append]; have := h.len; simp; omega, ?_, ?_, h.bge, by simpa [natVals] using hown, ?_, ?_⟩
  · exact hg.cell (alloc_cell h.box1 O2) (hne _ (by have := h.bge; simp; omega))
  · exact hg.cell (alloc_cell h.view O2) (hne _ (by simp))
  · have b1 : Below w.heap.size w (w1.alloc O2) := h.below.alloc h.below.size O2
    exact b1.grown hg b1.size (fun x hx => by have := hlt x hx; have := h.bge; omega)
  · have h2 := hg.size; have h3 := h.lt; simp at h2; omega
set_option maxRecDepth 100000 in
set_option maxHeartbeats 1000000 in
theorem objects (v : Value) (ws : List Int) (top : Int) (w : World) (hr : Rd w v ws) (hf : Fit ws) (ht : -9223372036854775808 ≤ top ∧ top ≤ 9223372036854775807) :
    Calls Try.prog 21 #[.agg #[v, .int .i64 top]] w (ObjPost w ws top) := by
  obtain ⟨i0, hi, hz0, hz1, hz2⟩ := info_parts infoI64
  have hv1 : ∃ p n c, v = .slice p n c := by
    rcases hr with ⟨p0, rfl, rfl⟩ | ⟨b, off, c, rfl, hl, hc, hcell⟩
    · exact ⟨p0, 0, 0, rfl⟩
    · exact ⟨_, _, _, rfl⟩
  obtain ⟨vp, vn, vc, rfl⟩ := hv1
  have HR := Lib.hid hr
  cases hm : memOk ws top
  · have hce : checkE ws top = 3 := by unfold checkE; rw [hm]; rfl
    have Hm := Lib.hid hm
    clear hr hm
    go_enter Try.func21, Try.ntmps21
    go_wp2_with fail
    refine (check_any _ ws top _ (HR.out.alloc _) hf ht).mono ?_
    rintro e w1 ⟨rfl, hb⟩
    rw [hce]
    clear hce
    go_wp2_with fail
    go_ret
    exact ObjPost.no Hm.out (((Below.refl _ _).alloc (Nat.le_refl _) _).trans (hb.mono (by simp)))
  · have hce : checkE ws top = 0 := by unfold checkE; rw [hm]; rfl
    have hms := hm
    unfold memOk at hms
    simp only [Bool.and_eq_true] at hms
    have hso := hms.1
    have hsh := hms.2.2
    have hzs := hms.2.1
    clear hms
    simp only [sizesOk, decide_eq_true_eq] at hso
    obtain ⟨g1, g2, g3, g4, g5⟩ := hso
    obtain ⟨n, rfl⟩ := Int.eq_ofNat_of_zero_le (by omega : 0 ≤ top)
    have Hm := Lib.hid hm
    rw [Int.toNat_natCast] at hsh
    obtain ⟨l, hl⟩ : ∃ l, scan (ws.take n) 1 = some l := by
      unfold shapeOk at hsh
      cases h : scan (ws.take n) 1 with
      | none => rw [h] at hsh; cases hsh
      | some l => exact ⟨l, rfl⟩
    have HL := Lib.hid hl
    have g6 : 1 ≤ n := by omega
    have g7 : n ≤ ws.length := by omega
    clear hr hm hsh hl g3 g4 g5 hzs
    go_enter Try.func21, Try.ntmps21
    go_wp2_with fail
    refine (check_any _ ws n _ (HR.out.alloc _) hf ht).mono ?_
    rintro e w1 ⟨rfl, hb⟩
    rw [hce]
    have hbx0 := below_cell hb (a := ⟨w.heap.size, 0, none⟩) (v := .slice vp vn vc) (by simp)
    have hbx1 := below_cell hb (a := ⟨w.heap.size, 1, none⟩) (v := .int .i64 n) (by simp)
    have hB0 : Below w.heap.size w w1 := ((Below.refl _ _).alloc (Nat.le_refl _) _).trans (hb.mono (by simp))
    have hs1 : w.heap.size < w1.heap.size := by have := hb.size; simp at this; omega
    clear hce hb
    go_wp2_with fail
    refine (viewof _ ws n _ (HR.out.keep hB0) (by omega) (by omega)).mono ?_
    rintro e w2 ⟨u, rfl, hu, hb2⟩
    rw [Int.toNat_natCast] at hu
    have hu := hu.keep hb2
    have hvl : (ws.take n).length = n := by rw [List.length_take]; omega
    have HVL := Lib.hid hvl
    have HFT := Lib.hid (hf.take n)
    obtain ⟨b2, off2, c2, rfl, hl2, hc2, hcell2⟩ := hu.some (by omega)
    rw [hvl] at hu
    have Hu := Lib.hid hu
    have hbx1' := below_cell hb2 hbx1
    have hB2 := hB0.trans (hb2.mono hB0.size)
    have hs2 : w.heap.size < w2.heap.size := Nat.lt_of_lt_of_le hs1 hb2.size
    rw [hvl]
    have HV := Lib.hid (rfl : ws.take n = ws.take n)
    generalize hvs : ws.take n = vs at *
    clear hu hvl hcell2 hl2 hbx0 hbx1 hb2 hB0 hs1 HV
    have HS0 : Hid (OS w n (.slice (some ⟨b2, off2, none⟩) n c2) vs l w2.heap.size 1 [] l (.slice none 0 0) (w2.alloc (.cells #[.slice (some ⟨b2, off2, none⟩) n c2] 92))) :=
      ⟨rfl, HL.out, Nat.le_refl _, g6, by simp, alloc_cell hbx1' _, by simp, hs2, World.ownsRow_nil _ _ _ _, hB2.alloc hB2.size _, by simp⟩
    have HVS := Lib.hid hvs
    clear hvs hbx1' hB2
    go_wp2_with fail
    go_loopw [3, 5] (fun lv s wr => ∃ k done rest, s = .int .i64 (k : Nat) ∧ OS w n (.slice (some ⟨b2, off2, none⟩) n c2) vs l w2.heap.size k done rest lv wr ∧ Below w2.heap.size w2 wr) (fun _ s _ => n - (intOf s).toNat)
    case atStart => exact ⟨1, [], l, by go_num, HS0.out, (Below.refl _ _).alloc (Nat.le_refl _) _⟩
    case round =>
      obtain ⟨k, done, rest, rfl, hS, hW⟩ := hrel
      have k1 := hS.one
      have kl := hS.le
      have hbx1 := hS.box1
      have hvw := hS.view
      by_cases hlt : k < n
      · have hok : okAt vs k = true := by
          cases ho : okAt vs k
          · have := hS.rest
            rw [scan_bad (by rw [HVL.out]; omega) ho] at this
            cases this
          · rfl
        obtain ⟨rest', hrest', hrl⟩ : ∃ rest', rest = k :: rest' ∧ scan vs (k + sz vs k) = some rest' := by
          have := hS.rest
          rw [scan_ok (by rw [HVL.out]; omega) hok] at this
          cases hh : scan vs (k + sz vs k) with
          | none => rw [hh] at this; cases this
          | some r => rw [hh] at this; exact ⟨r, by simpa using this.symm, rfl⟩
        have HO := Lib.hid hok
        have HRR := Lib.hid hrest'
        have HRL := Lib.hid hrl
        have hh : 0 ≤ headAt vs k ∧ headAt vs k ≤ 18446744073709551615 := by unfold headAt; split; exact HFT.out.at _; omega
        clear hok hrest' hrl
        go_wp2_with fail
        refine (look_any _ vs _ _ (Hu.out.keep hW) HFT.out).mono ?_
        rintro e w3 ⟨rfl, hb3⟩
        have hS3 := hS.keep hb3
        have hW3 := hW.trans (hb3.mono hW.size)
        have hlen := hS3.len
        have hlt3 := hS3.lt
        clear hS hW hb3 hbx1 hvw
        go_wp2_with (at_builtin; refine wpList_append_own _ rfl _ _ 26 rfl (w2.heap.size + 1) 3 i0 (.int .i64 0) 1 8 Try.underlying26 hi hz0 hz1 hz2 rfl (by decide) _ _ _ rfl (hS3.own.alloc _) ⟨w3.heap.size, 0, none⟩ 1 1 [.int .i64 (k : Int)] rfl rfl ?c1 ?c2 ?c3 ?c4 ?c5 ?_)
        case c1 => exact one_new _ _ _
        case c2 => simp [Value.oneCell']
        case c3 => unfold maxLen; omega
        case c4 => omega
        case c5 => simp; omega
        intro v' w4 hown' hgrow _
        have hN := hS3.next HRR.out HVL.out HO.out HRL.out _ v' w4 hown' hgrow
        have hW4 : Below w2.heap.size w2 w4 := (hW3.alloc hW3.size _).grown hgrow (hW3.alloc hW3.size _).size (fun x hx => by have := hS3.own.lt x hx; omega)
        have HN := Lib.hid hN
        have hsz := okAt_sz HO.out
        rw [HVL.out] at hsz
        have HS := Lib.hid hsz.2.2.2.1
        have hs1 := hsz.2.1
        have hs2' := hsz.2.2.1
        have q3 := hS_lo (headAt vs k)
        clear hN hown' hgrow hsz
        go_wp2_with fail
        refine (hsize _ hh _).mono ?_
        rintro e w5 ⟨rfl, rfl⟩
        go_wp2_with fail
        go_roundw
        case rel => exact ⟨k + sz vs k, done ++ [k], rest', by rw [← HS.out]; go_num, HN.out, hW4⟩
        case measure => rw [← HS.out]; simp [intOf]; omega
      · have he : Hid (rest = []) := by
          have := hS.rest
          rw [scan_end (by rw [HVL.out]; omega)] at this
          unfold Hid; simpa using this.symm
        have hd : Hid (l = done) := by have := hS.split; rw [he.out, List.append_nil] at this; exact this
        have ho := owns_lower hS.own (B' := w.heap.size) (by have := hS.bge; omega)
        have HO := Lib.hid ho
        clear ho
        go_wp2_with fail
        go_ret
        exact ObjPost.yes Hm.out (by rw [HVS.out, HL.out, hd.out]) hS.below HO.out
end Go.Proofs.Ytfhjpgbnojdlkaa
