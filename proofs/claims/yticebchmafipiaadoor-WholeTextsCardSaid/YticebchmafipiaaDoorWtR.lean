/- Layer 2: the document's Read: a text's number, digit by digit. -/
import Derived.Test.YticebchmafipiaaDoorWtS
import Derived.PlainAid
import Derived.Deep.QuietTactic
import Derived.BigQuiet
namespace Go.Proofs.YticebchmafipiaaDoor
open Go Go.ChangeShapes Go.WideShapes Go.ChangeAt Go.RowKit Go.PlainAid
set_option linter.unusedVariables false
set_option linter.unusedSimpArgs false
/-- The digits from place m on, the lowest first. -/
def rdN (s : ByteArray) (m : Nat) : List Int := (List.range (s.size - m)).map fun j => bt s (s.size - 1 - j) - 48
theorem rdN_len (s : ByteArray) (m : Nat) : (rdN s m).length = s.size - m := by simp [rdN]
theorem rdN_end (s : ByteArray) : rdN s s.size = [] := by simp [rdN]
theorem rdN_step (s : ByteArray) (k : Nat) (h : k < s.size) : rdN s k = rdN s (k + 1) ++ [bt s k - 48] := by
  unfold rdN
  rw [show s.size - k = (s.size - (k + 1)) + 1 by omega, List.range_succ, List.map_append]
  simp only [List.map_cons, List.map_nil]
  rw [show s.size - 1 - (s.size - (k + 1)) = k by omega]
/-- All bytes from m on are digits. -/
def DigsFrom (s : ByteArray) (m : Nat) : Prop := ∀ k, m ≤ k → k < s.size → 48 ≤ bt s k ∧ bt s k ≤ 57
theorem rdN_dig {s : ByteArray} {m : Nat} (h : DigsFrom s m) : Dig 10 (rdN s m) := fun i => by
  unfold rdN
  rw [List.getD_eq_getElem?_getD, List.getElem?_map]
  by_cases hi : i < s.size - m
  · rw [List.getElem?_range hi]
    have := h (s.size - 1 - i) (by omega) (by omega)
    simp only [Option.map_some, Option.getD_some]
    omega
  · rw [List.getElem?_eq_none (by simpa using hi)]; simp
theorem DigsFrom.step {s : ByteArray} {k : Nat} (h : DigsFrom s (k + 1)) (h0 : 48 ≤ bt s k) (h1 : bt s k ≤ 57) : DigsFrom s k := fun j hj hl => by
  by_cases e : j = k
  · subst e; exact ⟨h0, h1⟩
  · exact h j (by omega) hl
def negT (s : ByteArray) : Bool := decide (0 < s.size) && bt s 0 == 45
def fromT (s : ByteArray) : Nat := if negT s then 1 else 0
def OkT (s : ByteArray) : Prop := fromT s < s.size ∧ DigsFrom s (fromT s)
def numT (s : ByteArray) : Int := sg (negT s) (val 10 (rdN s (fromT s)))
/-- What a text is read as; b: the base of the row that is answered. -/
def TQ (b : Int) (s : ByteArray) (neg : Bool) (ds : List Int) (f : Int) : Prop :=
  (¬ OkT s ∧ neg = false ∧ ds = [] ∧ f = 4) ∨ (OkT s ∧ ¬ Small (numT s) ∧ neg = false ∧ ds = [] ∧ f = 2) ∨ (OkT s ∧ Small (numT s) ∧ f = 0 ∧ Sgn b neg ds (numT s))
def ReadPost (W : World) (s : ByteArray) (e : Ending) (w' : World) : Prop :=
  ∃ neg u ds f, e = .returned (.tuple #[.agg #[.bool neg, u], .int .i64 f]) ∧ Rb w' u ds ∧ TQ 10 s neg ds f ∧ Below W.heap.size W w'
theorem sgn_cut {neg : Bool} {ds : List Int} {k : Nat} (hk : CutAt ds k) (hd : Dig 10 ds) : Sgn 10 (neg && decide (0 < k)) (ds.take k) (sg neg (val 10 ds)) := by
  obtain ⟨h1, h2, h3⟩ := hk.canon (b := 10) (by decide) hd
  refine ⟨h1, fun e => ?_, ?_⟩
  · rw [h3]
    simp at e
    exact e.2
  · by_cases h0 : 0 < k
    · rw [decide_eq_true h0, Bool.and_true, h2]
    · obtain rfl : k = 0 := by omega
      rw [List.take_zero] at h2
      rw [← h2]
      cases neg <;> rfl
theorem ReadPost.bad {w w' : World} {s : ByteArray} (h : ¬ OkT s) (hb : Below w.heap.size w w') : ReadPost w s (.returned (.tuple #[.agg #[.bool false, .slice none 0 0], .int .i64 4])) w' :=
  ⟨false, _, [], 4, rfl, .inl ⟨none, rfl, rfl⟩, .inl ⟨h, rfl, rfl, rfl⟩, hb⟩
set_option maxRecDepth 100000 in
set_option maxHeartbeats 2000000 in
theorem read_empty (s : ByteArray) (w : World) (hsz : s.size ≤ 140737488355328) (h0 : s.size = 0) :
    Calls Tryd.prog 6 #[.string s] w (ReadPost w s) := by
  have hb := get_bt s
  have hok : ¬ OkT s := fun h => by have := h.1; omega
  have HOK := Lib.hid hok
  have hz : ¬ ((s.size : Int) > 0) := by omega
  have hzd : decide ((s.size : Int) > 0) = false := by simp [h0]
  clear hok
  go_enter Tryd.func6, Tryd.ntmps6
  go_wp2_with fail
  refine bodyPost_ret (v := .tuple #[.agg #[.bool false, .slice none 0 0], .int .i64 4]) (by simp [results, Tryd.results6, go_sem]) rfl (ReadPost.bad HOK.out ?_)
  exact (Below.refl _ _).alloc (Nat.le_refl _) _
set_option maxRecDepth 100000 in
set_option maxHeartbeats 2000000 in
theorem read_neg (s : ByteArray) (w : World) (hsz : s.size ≤ 140737488355328) (h0 : 0 < s.size) (h45 : bt s 0 = 45) :
    Calls Tryd.prog 6 #[.string s] w (ReadPost w s) := by
  have hb := get_bt s
  have hneg : negT s = true := by unfold negT; simp [h0, h45]
  have h0z : (s.size : Int) > 0 := by omega
  have h0i : (0 : Int) < (s.size : Int) := by omega
  have hfr : fromT s = 1 := by unfold fromT; rw [hneg]; rfl
  by_cases hs1 : s.size = 1
  · have hok : ¬ OkT s := fun h => by have := h.1; rw [hfr] at this; omega
    have HOK := Lib.hid hok
    clear hok hneg hfr
    have hsz1 : (s.size : Int) = 1 := by omega
    go_enter Tryd.func6, Tryd.ntmps6
    go_wp2_with fail
    refine bodyPost_ret (v := .tuple #[.agg #[.bool false, .slice none 0 0], .int .i64 4]) (by simp [results, Tryd.results6, go_sem]) rfl (ReadPost.bad HOK.out ?_)
    exact (Below.refl _ _).alloc (Nat.le_refl _) _
  · have HNEG := Lib.hid hneg
    have HFR := Lib.hid hfr
    have HNT := Lib.hid (show numT s = sg true (val 10 (rdN s 1)) by unfold numT; rw [hneg, hfr])
    clear hneg hfr
    have hne : (((1 : Int)) == (s.size : Int)) = false := by rw [beq_eq_false_iff_ne]; omega
    have HB0 := Lib.hid (show Below w.heap.size w (w.alloc (.cells #[.bool false, .slice none 0 0] 28)) from (Below.refl _ _).alloc (Nat.le_refl _) _)
    have HX0 := Lib.hid (show Box2 (w.alloc (.cells #[.bool false, .slice none 0 0] 28)) w.heap.size (.bool false) (.slice none 0 0) from Box2.new _ _ _ _ rfl)
    go_enter Tryd.func6, Tryd.ntmps6
    go_wp2_with fail
    go_loopw [6, 7] (fun v iv wr => ∃ (m : Nat) (i : Int), iv = .int .i64 i ∧ i + 1 = m ∧ 1 ≤ m ∧ m ≤ s.size ∧ DigsFrom s m ∧ OB wr (w.heap.size + 1) v (rdN s m) ∧ Below (w.heap.size + 1) (w.alloc (.cells #[.bool false, .slice none 0 0] 28)) wr) (fun _ iv _ => (intOf iv + 1).toNat)
    case atStart => exact ⟨s.size, (s.size : Int) - 1, by go_num, by omega, by omega, Nat.le_refl _, fun k h1 h2 => by omega, by rw [rdN_end]; exact OW.nil _ _, Below.refl _ _⟩
    case round =>
      obtain ⟨m, i, rfl, hi', hm1, hm2, hD, hO, hB⟩ := hrel
      have HD := Lib.hid hD
      have HO := Lib.hid hO
      have HB := Lib.hid hB
      have hsz' := hB.size
      simp only [alloc_size] at hsz'
      have e0 := hB.block w.heap.size (by simp)
      have x0 := (World.cell?_of_block (a := ⟨w.heap.size, 0, none⟩) e0).trans HX0.out.c0
      have x1 := (World.cell?_of_block (a := ⟨w.heap.size, 1, none⟩) e0).trans HX0.out.c1
      have f0 := (World.frozen?_of_block (a := ⟨w.heap.size, 0, none⟩) e0).trans HX0.out.f0
      have f1 := (World.frozen?_of_block (a := ⟨w.heap.size, 1, none⟩) e0).trans HX0.out.f1
      clear hD hO hB e0
      obtain ⟨pv, cv, rfl⟩ := own_formS HO.out
      by_cases hmf : m = 1
      · subst hmf
        have hig : ¬ (i ≥ (1 : Int)) := by omega
        obtain rfl : i = 1 - 1 := by omega
        have HRB := Lib.hid (OW.rb HO.out (by rw [rdN_len]; omega))
        have HMI := Lib.hid (OW.mine HO.out)
        have HOK := Lib.hid (show OkT s from ⟨by rw [HFR.out]; omega, by rw [HFR.out]; exact HD.out⟩)
        go_wp2_with fail
        refine (cut_any pv cv (rdN s 1) wr HRB.out).mono ?_
        rintro e w5 ⟨kk, hkk, rfl, rfl⟩
        have HKK := Lib.hid hkk
        have hkl := hkk.1
        have HSG := Lib.hid (show Sgn 10 (true && decide (0 < kk)) ((rdN s 1).take kk) (numT s) by rw [HNT.out]; exact sgn_cut hkk (rdN_dig HD.out))
        have hlt : ((rdN s 1).take kk).length = kk := by rw [List.length_take]; omega
        have hsm := HSG.out.fits
        rw [hlt] at hsm
        clear hkk
        by_cases hk5 : kk ≤ 540
        · have hkz : ¬ ((kk : Int) > 540) := by omega
          by_cases hk0 : kk = 0
          · subst hk0
            have hkg : decide ((0 : Int) > 0) = false := by decide
            have hki : ¬ ((0 : Int) > 0) := by omega
            go_wp2_with fail
            have zz := two_setW (x0 := .bool false) (x1 := .slice pv 0 cv) x0 x1
            refine bodyPost_ret (v := .tuple #[.agg #[.bool false, .slice pv 0 cv], .int .i64 0]) (by simp [results, Tryd.results6, go_sem, zz.1, zz.2]) rfl ⟨false, _, (rdN s 1).take 0, 0, rfl, ((HMI.out.cut hkl).set2 (by omega) _ _).rb (by rw [hlt]; omega), .inr (.inr ⟨HOK.out, hsm.1 hk5, rfl, by have h := HSG.out; rw [show decide (0 < 0) = false from rfl, Bool.and_false] at h; exact h⟩), ?_⟩
            exact ((HB0.out.trans (HB.out.mono (by omega))).setCell (by simp) _).setCell (by simp) _
          · have hkg : (kk : Int) > 0 := by omega
            have hkh : decide (0 < kk) = true := by simp; omega
            have hki : 0 < kk := by omega
            go_wp2_with fail
            have zz := two_setW (x0 := .bool true) (x1 := .slice pv kk cv) x0 x1
            refine bodyPost_ret (v := .tuple #[.agg #[.bool true, .slice pv kk cv], .int .i64 0]) (by simp [results, Tryd.results6, go_sem, zz.1, zz.2]) rfl ⟨true, _, (rdN s 1).take kk, 0, rfl, ((HMI.out.cut hkl).set2 (by omega) _ _).rb (by rw [hlt]; omega), .inr (.inr ⟨HOK.out, hsm.1 hk5, rfl, by have h := HSG.out; rw [hkh, Bool.and_true] at h; exact h⟩), ?_⟩
            exact ((HB0.out.trans (HB.out.mono (by omega))).setCell (by simp) _).setCell (by simp) _
        · have hkz : (kk : Int) > 540 := by omega
          go_wp2_with fail
          have zz := two_setW (x0 := .bool false) (x1 := .slice none 0 0) x0 x1
          refine bodyPost_ret (v := .tuple #[.agg #[.bool false, .slice none 0 0], .int .i64 2]) (by simp [results, Tryd.results6, go_sem, zz.1, zz.2]) rfl ⟨false, _, [], 2, rfl, .inl ⟨none, rfl, rfl⟩, .inr (.inl ⟨HOK.out, fun h => hk5 (hsm.2 h), rfl, rfl, rfl⟩), ?_⟩
          exact ((HB0.out.trans (HB.out.mono (by omega))).setCell (by simp) _).setCell (by simp) _
      · obtain ⟨k, rfl⟩ : ∃ k, m = k + 1 := ⟨m - 1, by omega⟩
        obtain rfl : i = (k : Int) := by omega
        have hig : (k : Int) ≥ 1 := by omega
        have hks : (k : Int) < (s.size : Int) := by omega
        have hbn := bt_nonneg s k
        by_cases hb0 : bt s k < 48
        · have HOK := Lib.hid (show ¬ OkT s from fun h => by have := h.2 k (by rw [HFR.out]; omega) (by omega); omega)
          go_wp2_with fail
          have zz := two_setW (x0 := .bool false) (x1 := .slice none 0 0) x0 x1
          refine bodyPost_ret (v := .tuple #[.agg #[.bool false, .slice none 0 0], .int .i64 4]) (by simp [results, Tryd.results6, go_sem, zz.1, zz.2]) rfl (ReadPost.bad HOK.out ?_)
          exact ((HB0.out.trans (HB.out.mono (by omega))).setCell (by simp) _).setCell (by simp) _
        · by_cases hb9 : bt s k > 57
          · have HOK := Lib.hid (show ¬ OkT s from fun h => by have := h.2 k (by rw [HFR.out]; omega) (by omega); omega)
            have hb0d : decide (bt s k < 48) = false := by simp; omega
            go_wp2_with fail
            have zz := two_setW (x0 := .bool false) (x1 := .slice none 0 0) x0 x1
            refine bodyPost_ret (v := .tuple #[.agg #[.bool false, .slice none 0 0], .int .i64 4]) (by simp [results, Tryd.results6, go_sem, zz.1, zz.2]) rfl (ReadPost.bad HOK.out ?_)
            exact ((HB0.out.trans (HB.out.mono (by omega))).setCell (by simp) _).setCell (by simp) _
          · have hb0d : decide (bt s k < 48) = false := by simp; omega
            have hb9d : decide (bt s k > 57) = false := by simp; omega
            have hw8 : IntKind.u8.wrap (bt s k - 48) = bt s k - 48 := by simp [IntKind.wrap, IntKind.signed, IntKind.bits]; omega
            have HD2 := Lib.hid (HD.out.step (by omega) (by omega))
            have HST := Lib.hid (rdN_step s k (by omega))
            have hb9e : decide (57 < bt s k) = false := by simp; omega
            go_wp2_with (at_builtin; refine wpList_app rfl (.tmp 40) (.tmp 45) rfl Tryd.underlying26 infoU8 rfl rfl (v := .slice pv (rdN s (k + 1)).length cv) (base := w.heap.size + 1) (n := (rdN s (k + 1)).length) (m := 1) (xs := (rdN s (k + 1)).map (Value.int .u8)) (news := [.int .u8 (bt s k - 48)]) (World.ownsRow.alloc HO.out _) rfl (by exact src_top (by first | rfl | (simp; done))) (by simp [Value.oneCell']) (by have := rdN_len s (k + 1); unfold maxLen; omega) (by have := rdN_len s (k + 1); omega) (by simp <;> omega) ?_; intro v4 w4 hap; have HO4 := Lib.hid (show OB w4 (w.heap.size + 1) v4 (rdN s k) from (by rw [HST.out]; exact OW.snoc hap.own)); have HB4 := Lib.hid ((HB.out.alloc (by omega) _).trans (hap.below (by simp <;> omega) (fun g hg => (World.ownsRow.lt HO.out g hg).1))); clear hap)
            go_roundw
            case rel => exact ⟨k, (k : Int) - 1, by go_num, by omega, by omega, by omega, HD2.out, HO4.out, HB4.out⟩
            case measure => simp [intOf] <;> omega
set_option maxRecDepth 100000 in
set_option maxHeartbeats 2000000 in
theorem read_pos (s : ByteArray) (w : World) (hsz : s.size ≤ 140737488355328) (h0 : 0 < s.size) (h45 : bt s 0 ≠ 45) :
    Calls Tryd.prog 6 #[.string s] w (ReadPost w s) := by
  have hb := get_bt s
  have hneg : negT s = false := by unfold negT; simp [h45]
  have h0z : (s.size : Int) > 0 := by omega
  have h0i : (0 : Int) < (s.size : Int) := by omega
  have h45b : (bt s 0 == 45) = false := by simpa using h45
  have hfr : fromT s = 0 := by unfold fromT; rw [hneg]; rfl
  by_cases hs1 : s.size = 0
  · exact absurd hs1 (by omega)
  · have HNEG := Lib.hid hneg
    have HFR := Lib.hid hfr
    have HNT := Lib.hid (show numT s = sg false (val 10 (rdN s 0)) by unfold numT; rw [hneg, hfr])
    clear hneg hfr
    have hne : (((0 : Int)) == (s.size : Int)) = false := by rw [beq_eq_false_iff_ne]; omega
    have HB0 := Lib.hid (show Below w.heap.size w (w.alloc (.cells #[.bool false, .slice none 0 0] 28)) from (Below.refl _ _).alloc (Nat.le_refl _) _)
    have HX0 := Lib.hid (show Box2 (w.alloc (.cells #[.bool false, .slice none 0 0] 28)) w.heap.size (.bool false) (.slice none 0 0) from Box2.new _ _ _ _ rfl)
    go_enter Tryd.func6, Tryd.ntmps6
    go_wp2_with fail
    go_loopw [6, 7] (fun v iv wr => ∃ (m : Nat) (i : Int), iv = .int .i64 i ∧ i + 1 = m ∧ 0 ≤ m ∧ m ≤ s.size ∧ DigsFrom s m ∧ OB wr (w.heap.size + 1) v (rdN s m) ∧ Below (w.heap.size + 1) (w.alloc (.cells #[.bool false, .slice none 0 0] 28)) wr) (fun _ iv _ => (intOf iv + 1).toNat)
    case atStart => exact ⟨s.size, (s.size : Int) - 1, by go_num, by omega, by omega, Nat.le_refl _, fun k h1 h2 => by omega, by rw [rdN_end]; exact OW.nil _ _, Below.refl _ _⟩
    case round =>
      obtain ⟨m, i, rfl, hi', hm1, hm2, hD, hO, hB⟩ := hrel
      have HD := Lib.hid hD
      have HO := Lib.hid hO
      have HB := Lib.hid hB
      have hsz' := hB.size
      simp only [alloc_size] at hsz'
      have e0 := hB.block w.heap.size (by simp)
      have x0 := (World.cell?_of_block (a := ⟨w.heap.size, 0, none⟩) e0).trans HX0.out.c0
      have x1 := (World.cell?_of_block (a := ⟨w.heap.size, 1, none⟩) e0).trans HX0.out.c1
      have f0 := (World.frozen?_of_block (a := ⟨w.heap.size, 0, none⟩) e0).trans HX0.out.f0
      have f1 := (World.frozen?_of_block (a := ⟨w.heap.size, 1, none⟩) e0).trans HX0.out.f1
      clear hD hO hB e0
      obtain ⟨pv, cv, rfl⟩ := own_formS HO.out
      by_cases hmf : m = 0
      · subst hmf
        have hig : ¬ (i ≥ (0 : Int)) := by omega
        obtain rfl : i = 0 - 1 := by omega
        have HRB := Lib.hid (OW.rb HO.out (by rw [rdN_len]; omega))
        have HMI := Lib.hid (OW.mine HO.out)
        have HOK := Lib.hid (show OkT s from ⟨by rw [HFR.out]; omega, by rw [HFR.out]; exact HD.out⟩)
        go_wp2_with fail
        refine (cut_any pv cv (rdN s 0) wr HRB.out).mono ?_
        rintro e w5 ⟨kk, hkk, rfl, rfl⟩
        have HKK := Lib.hid hkk
        have hkl := hkk.1
        have HSG := Lib.hid (show Sgn 10 (false && decide (0 < kk)) ((rdN s 0).take kk) (numT s) by rw [HNT.out]; exact sgn_cut hkk (rdN_dig HD.out))
        have hlt : ((rdN s 0).take kk).length = kk := by rw [List.length_take]; omega
        have hsm := HSG.out.fits
        rw [hlt] at hsm
        clear hkk
        by_cases hk5 : kk ≤ 540
        · have hkz : ¬ ((kk : Int) > 540) := by omega
          by_cases hk0 : kk = 0
          · subst hk0
            have hkg : decide ((0 : Int) > 0) = false := by decide
            have hki : ¬ ((0 : Int) > 0) := by omega
            go_wp2_with fail
            have zz := two_setW (x0 := .bool false) (x1 := .slice pv 0 cv) x0 x1
            refine bodyPost_ret (v := .tuple #[.agg #[.bool false, .slice pv 0 cv], .int .i64 0]) (by simp [results, Tryd.results6, go_sem, zz.1, zz.2]) rfl ⟨false, _, (rdN s 0).take 0, 0, rfl, ((HMI.out.cut hkl).set2 (by omega) _ _).rb (by rw [hlt]; omega), .inr (.inr ⟨HOK.out, hsm.1 hk5, rfl, by have h := HSG.out; rw [show decide (0 < 0) = false from rfl, Bool.and_false] at h; exact h⟩), ?_⟩
            exact ((HB0.out.trans (HB.out.mono (by omega))).setCell (by simp) _).setCell (by simp) _
          · have hkg : (kk : Int) > 0 := by omega
            have hkh : decide (0 < kk) = true := by simp; omega
            have hki : 0 < kk := by omega
            go_wp2_with fail
            have zz := two_setW (x0 := .bool false) (x1 := .slice pv kk cv) x0 x1
            refine bodyPost_ret (v := .tuple #[.agg #[.bool false, .slice pv kk cv], .int .i64 0]) (by simp [results, Tryd.results6, go_sem, zz.1, zz.2]) rfl ⟨false, _, (rdN s 0).take kk, 0, rfl, ((HMI.out.cut hkl).set2 (by omega) _ _).rb (by rw [hlt]; omega), .inr (.inr ⟨HOK.out, hsm.1 hk5, rfl, by have h := HSG.out; rw [hkh, Bool.and_true] at h; exact h⟩), ?_⟩
            exact ((HB0.out.trans (HB.out.mono (by omega))).setCell (by simp) _).setCell (by simp) _
        · have hkz : (kk : Int) > 540 := by omega
          go_wp2_with fail
          have zz := two_setW (x0 := .bool false) (x1 := .slice none 0 0) x0 x1
          refine bodyPost_ret (v := .tuple #[.agg #[.bool false, .slice none 0 0], .int .i64 2]) (by simp [results, Tryd.results6, go_sem, zz.1, zz.2]) rfl ⟨false, _, [], 2, rfl, .inl ⟨none, rfl, rfl⟩, .inr (.inl ⟨HOK.out, fun h => hk5 (hsm.2 h), rfl, rfl, rfl⟩), ?_⟩
          exact ((HB0.out.trans (HB.out.mono (by omega))).setCell (by simp) _).setCell (by simp) _
      · obtain ⟨k, rfl⟩ : ∃ k, m = k + 1 := ⟨m - 1, by omega⟩
        obtain rfl : i = (k : Int) := by omega
        have hig : (k : Int) ≥ 0 := by omega
        have hks : (k : Int) < (s.size : Int) := by omega
        have hbn := bt_nonneg s k
        by_cases hb0 : bt s k < 48
        · have HOK := Lib.hid (show ¬ OkT s from fun h => by have := h.2 k (by rw [HFR.out]; omega) (by omega); omega)
          go_wp2_with fail
          have zz := two_setW (x0 := .bool false) (x1 := .slice none 0 0) x0 x1
          refine bodyPost_ret (v := .tuple #[.agg #[.bool false, .slice none 0 0], .int .i64 4]) (by simp [results, Tryd.results6, go_sem, zz.1, zz.2]) rfl (ReadPost.bad HOK.out ?_)
          exact ((HB0.out.trans (HB.out.mono (by omega))).setCell (by simp) _).setCell (by simp) _
        · by_cases hb9 : bt s k > 57
          · have HOK := Lib.hid (show ¬ OkT s from fun h => by have := h.2 k (by rw [HFR.out]; omega) (by omega); omega)
            have hb0d : decide (bt s k < 48) = false := by simp; omega
            go_wp2_with fail
            have zz := two_setW (x0 := .bool false) (x1 := .slice none 0 0) x0 x1
            refine bodyPost_ret (v := .tuple #[.agg #[.bool false, .slice none 0 0], .int .i64 4]) (by simp [results, Tryd.results6, go_sem, zz.1, zz.2]) rfl (ReadPost.bad HOK.out ?_)
            exact ((HB0.out.trans (HB.out.mono (by omega))).setCell (by simp) _).setCell (by simp) _
          · have hb0d : decide (bt s k < 48) = false := by simp; omega
            have hb9d : decide (bt s k > 57) = false := by simp; omega
            have hw8 : IntKind.u8.wrap (bt s k - 48) = bt s k - 48 := by simp [IntKind.wrap, IntKind.signed, IntKind.bits]; omega
            have HD2 := Lib.hid (HD.out.step (by omega) (by omega))
            have HST := Lib.hid (rdN_step s k (by omega))
            have hb9e : decide (57 < bt s k) = false := by simp; omega
            go_wp2_with (at_builtin; refine wpList_app rfl (.tmp 40) (.tmp 45) rfl Tryd.underlying26 infoU8 rfl rfl (v := .slice pv (rdN s (k + 1)).length cv) (base := w.heap.size + 1) (n := (rdN s (k + 1)).length) (m := 1) (xs := (rdN s (k + 1)).map (Value.int .u8)) (news := [.int .u8 (bt s k - 48)]) (World.ownsRow.alloc HO.out _) rfl (by exact src_top (by first | rfl | (simp; done))) (by simp [Value.oneCell']) (by have := rdN_len s (k + 1); unfold maxLen; omega) (by have := rdN_len s (k + 1); omega) (by simp <;> omega) ?_; intro v4 w4 hap; have HO4 := Lib.hid (show OB w4 (w.heap.size + 1) v4 (rdN s k) from (by rw [HST.out]; exact OW.snoc hap.own)); have HB4 := Lib.hid ((HB.out.alloc (by omega) _).trans (hap.below (by simp <;> omega) (fun g hg => (World.ownsRow.lt HO.out g hg).1))); clear hap)
            go_roundw
            case rel => exact ⟨k, (k : Int) - 1, by go_num, by omega, by omega, by omega, HD2.out, HO4.out, HB4.out⟩
            case measure => simp [intOf] <;> omega
theorem read_any (s : ByteArray) (w : World) (hsz : s.size ≤ 140737488355328) : Calls Tryd.prog 6 #[.string s] w (ReadPost w s) := by
  by_cases h0 : s.size = 0
  · exact read_empty s w hsz h0
  · by_cases h45 : bt s 0 = 45
    · exact read_neg s w hsz (by omega) h45
    · exact read_pos s w hsz (by omega) h45
end Go.Proofs.YticebchmafipiaaDoor
