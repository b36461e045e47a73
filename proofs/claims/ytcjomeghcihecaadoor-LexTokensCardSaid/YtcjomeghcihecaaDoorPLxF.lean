/- Layer 4: the lexer's looks at its source. -/
import Derived.Test.YtcjomeghcihecaaDoorPLxM
namespace Go.Proofs.YtcjomeghcihecaaDoor
open Go Go.ChangeShapes Go.WideShapes Go.ChangeAt Go.RowKit Go.PlainAid Go.Maps
set_option linter.unusedVariables false
set_option linter.unusedSimpArgs false
/-- The bytes from a place on. -/
def Rs (s : ByteArray) (k : Nat) : Bs := s.data.toList.drop k
theorem Rs_cons {s : ByteArray} {k : Nat} (h : k < s.size) : ∃ c : UInt8, Rs s k = c :: Rs s (k + 1) ∧ bt s k = (c.toNat : Int) := by
  have h' : k < s.data.toList.length := by rw [← Lib.size_eq]; exact h
  refine ⟨s.data.toList[k], List.drop_eq_getElem_cons h', ?_⟩
  unfold bt
  rw [dif_pos h]
  rfl
theorem Rs_end {s : ByteArray} {k : Nat} (h : s.size ≤ k) : Rs s k = [] := List.drop_eq_nil_of_le (by rw [← Lib.size_eq]; exact h)
theorem Rs_len (s : ByteArray) (k : Nat) : (Rs s k).length = s.size - k := by unfold Rs; rw [List.length_drop, ← Lib.size_eq]
theorem Rs_drop (s : ByteArray) (k n : Nat) : (Rs s k).drop n = Rs s (k + n) := by unfold Rs; rw [List.drop_drop]
def endB (s : ByteArray) (a : Nat) : Bool := decide (a = s.size) || decide (bt s a = 10)
theorem u8_ten {c : UInt8} : (c.toNat : Int) = 10 ↔ c = 10 := by
  constructor
  · intro h
    exact UInt8.toNat_inj.1 (by have : c.toNat = 10 := by omega
                                rw [this]; rfl)
  · rintro rfl; rfl
theorem u8_eq {c : UInt8} {n : Nat} (hn : n < 256) : (c.toNat : Int) = n ↔ c = UInt8.ofNat n := by
  constructor
  · intro h
    refine UInt8.toNat_inj.1 ?_
    rw [UInt8.toNat_ofNat']
    omega
  · rintro rfl
    rw [UInt8.toNat_ofNat']
    omega
theorem endB_row {s : ByteArray} {a : Nat} (h : a ≤ s.size) : endB s a = (rowOf (Rs s a)).isEmpty := by
  unfold endB
  by_cases e : a = s.size
  · subst e
    rw [Rs_end (Nat.le_refl _)]
    simp [rowOf]
  · obtain ⟨c, h1, h2⟩ := Rs_cons (s := s) (k := a) (by omega)
    rw [h1, h2]
    by_cases hc : c = 10
    · subst hc; simp [rowOf]
    · have : ¬ ((c.toNat : Int) = 10) := fun h => hc (u8_ten.1 h)
      have hl : (rowOf (c :: Rs s (a + 1))).isEmpty = false := by unfold rowOf; rw [List.takeWhile_cons, if_pos (by simpa using hc)]; rfl
      rw [hl, decide_eq_false e, decide_eq_false this]
      rfl
theorem drew_below (B : Nat) (w : World) (n : Nat) : Below B w (w.drewN n) := ⟨rfl, rfl, rfl, Nat.le_refl _, fun _ _ => rfl⟩
set_option maxRecDepth 100000 in
set_option maxHeartbeats 800000 in
theorem atEnd_any {D : DataW Unit} {w : World} {B x mb kb : Nat} {σ : LxD} (h : LX D w B x mb kb σ) (hs : σ.s.size ≤ 20000) (ha : σ.a ≤ σ.s.size) :
    Calls Tryd.prog 31 #[.pointer (some ⟨x, 0, none⟩)] w fun e w' => e = .returned (.bool (endB σ.s σ.a)) ∧ ∃ n, w' = w.drewN n := by
  obtain ⟨ov, tv, h⟩ := h
  have c0 := h.c.c0
  have c1 := h.c.c1
  obtain ⟨s, a, ln, d, op, out⟩ := σ
  simp only at c0 c1 hs ha ⊢
  have hb := get_bt s
  clear h
  by_cases he : a = s.size
  · have hv : endB s a = true := by unfold endB; rw [decide_eq_true he]; rfl
    rw [hv]
    have hei : (a : Int) = (s.size : Int) := by omega
    have heb : ((a : Int) == (s.size : Int)) = true := by simpa using hei
    subst he
    go_enter Tryd.func31, Tryd.ntmps31
    go_wp2_with fail
    go_quiet (fail)
    go_wp2_with fail
    go_ret
    exact ⟨rfl, nq, rfl⟩
  · have hv : endB s a = (bt s a == 10) := by unfold endB; rw [decide_eq_false he, Bool.false_or]; rfl
    rw [hv]
    have hlt : a < s.size := by omega
    have hlz : (a : Int) < (s.size : Int) := by omega
    have heb : ((a : Int) == (s.size : Int)) = false := by simpa using (show ¬ ((a : Int) = (s.size : Int)) by omega)
    go_enter Tryd.func31, Tryd.ntmps31
    go_wp2_with fail
    go_quiet (fail)
    go_wp2_with fail
    go_ret
    exact ⟨rfl, nq, rfl⟩
end Go.Proofs.YtcjomeghcihecaaDoor
