/- Layer 2: numbers written in digits, from the highest down: what ParseUint, the trimming and the windows of a text are. -/
import Derived.Test.YticebchmafipiaaDoorWtR
import Derived.Lib.ParseIntB
import Derived.Lib.TrimByte
import Derived.Lib.Strings
namespace Go.Proofs.YticebchmafipiaaDoor
open Go Go.ChangeShapes Go.WideShapes Go.ChangeAt Go.RowKit Go.PlainAid
set_option linter.unusedVariables false
set_option linter.unusedSimpArgs false
/-- The number that digits spell, the highest first. -/
def spell : List UInt8 → Int
  | [] => 0
  | c :: r => ((c.toNat : Int) - 48) * 10 ^ r.length + spell r
theorem spell_append (a b : List UInt8) : spell (a ++ b) = spell a * 10 ^ b.length + spell b := by
  induction a with
  | nil => simp [spell]
  | cons c r ih =>
    simp only [List.cons_append, spell, ih, List.length_append]
    rw [Int.pow_add, Int.add_mul, Int.mul_assoc]
    omega
def AllDig (l : List UInt8) : Prop := ∀ c ∈ l, 48 ≤ c.toNat ∧ c.toNat ≤ 57
theorem spell_bd {l : List UInt8} (h : AllDig l) : 0 ≤ spell l ∧ spell l < 10 ^ l.length := by
  induction l with
  | nil => simp [spell]
  | cons c r ih =>
    have h1 := ih fun x hx => h x (by simp [hx])
    have h2 := h c (by simp)
    have h3 : (0 : Int) < 10 ^ r.length := pow_pos' (by decide) _
    simp only [spell, List.length_cons, Int.pow_succ]
    have h4 : 0 ≤ ((c.toNat : Int) - 48) * 10 ^ r.length := Int.mul_nonneg (by omega) (by omega)
    have h5 : ((c.toNat : Int) - 48) * 10 ^ r.length ≤ 9 * 10 ^ r.length := Int.mul_le_mul_of_nonneg_right (by omega) (by omega)
    omega
theorem bt_list (s : ByteArray) {k : Nat} (h : k < s.size) : bt s k = ((s.data.toList[k]'(by rw [← Lib.size_eq]; exact h)).toNat : Int) := by
  unfold bt
  rw [dif_pos h]
  simp
  rfl
theorem rdN_spell (s : ByteArray) : ∀ (n m : Nat), s.size - m = n → val 10 (rdN s m) = spell (s.data.toList.drop m)
  | 0, m, h => by
    have e : rdN s m = [] := List.length_eq_zero_iff.1 (by rw [rdN_len]; exact h)
    rw [e, List.drop_eq_nil_iff.2 (by rw [← Lib.size_eq]; omega)]
    rfl
  | n + 1, m, h => by
    have hm : m < s.size := by omega
    rw [rdN_step s m hm, val_append, rdN_spell s n (m + 1) (by omega), rdN_len, List.drop_eq_getElem_cons (i := m) (by rw [← Lib.size_eq]; exact hm), bt_list s hm]
    simp only [spell, val, List.length_drop]
    have hsz := Lib.size_eq s
    generalize ((s.data.toList[m]'(by rw [← Lib.size_eq]; exact hm)).toNat : Int) = d
    rw [← hsz, Int.mul_zero, Int.add_zero, Int.mul_comm (10 ^ _)]
    omega
theorem parseM_ok (M : Nat) (hM : 18446744073709551615 ≤ M) (l : List UInt8) : ∀ (acc : Nat), AllDig l → (acc : Int) * 10 ^ l.length + spell l < 1000000000000000000 → ∃ u : Nat, Lib.parseUintM M acc l = .ok u ∧ (u : Int) = (acc : Int) * 10 ^ l.length + spell l := by
  induction l with
  | nil => intro acc _ h; exact ⟨acc, by simp [Lib.parseUintM], by simp [spell]⟩
  | cons c r ih =>
    intro acc hd h
    have hc := hd c (by simp)
    have hr : AllDig r := fun x hx => hd x (by simp [hx])
    have hb := spell_bd hr
    have hp : (0 : Int) < 10 ^ r.length := pow_pos' (by decide) _
    simp only [spell, List.length_cons, Int.pow_succ] at h
    have e1 : (acc : Int) * (10 ^ r.length * 10) = (acc : Int) * 10 * 10 ^ r.length := by rw [Int.mul_comm (10 ^ r.length) 10, Int.mul_assoc]
    have e : (((acc * 10 + (c.toNat - 48) : Nat) : Int)) * 10 ^ r.length + spell r = (acc : Int) * (10 ^ r.length * 10) + (((c.toNat : Int) - 48) * 10 ^ r.length + spell r) := by
      rw [e1]
      have : ((acc * 10 + (c.toNat - 48) : Nat) : Int) = (acc : Int) * 10 + ((c.toNat : Int) - 48) := by omega
      rw [this, Int.add_mul]
      omega
    have hle : ((acc * 10 + (c.toNat - 48) : Nat) : Int) * 1 ≤ ((acc * 10 + (c.toNat - 48) : Nat) : Int) * 10 ^ r.length := Int.mul_le_mul_of_nonneg_left (by omega) (by omega)
    have hlt : ((acc * 10 + (c.toNat - 48) : Nat) : Int) < 1000000000000000000 := by omega
    obtain ⟨u, h1, h2⟩ := ih (acc * 10 + (c.toNat - 48)) hr (by rw [e]; exact h)
    refine ⟨u, ?_, by rw [h2, e]; simp only [spell, List.length_cons, Int.pow_succ]⟩
    unfold Lib.parseUintM
    rw [if_pos hc, if_neg (by omega), if_neg (by omega)]
    exact h1
theorem parse_ok {l : List UInt8} (h0 : l ≠ []) (hd : AllDig l) (hl : l.length ≤ 18) : ∃ u : Nat, Lib.parseUintB 64 l = .ok u ∧ (u : Int) = spell l := by
  have hb := spell_bd hd
  have hp : (10 : Int) ^ l.length ≤ 10 ^ 18 := by
    have : (10 : Int) ^ 18 = 10 ^ l.length * 10 ^ (18 - l.length) := by rw [← Int.pow_add]; congr 1; omega
    rw [this]
    have h1 : (0 : Int) < 10 ^ l.length := pow_pos' (by decide) _
    have h2 : (0 : Int) < 10 ^ (18 - l.length) := pow_pos' (by decide) _
    have := Int.mul_le_mul_of_nonneg_left (show (1 : Int) ≤ 10 ^ (18 - l.length) by omega) (show (0 : Int) ≤ 10 ^ l.length by omega)
    omega
  have h18 : (10 : Int) ^ 18 = 1000000000000000000 := by decide
  rw [h18] at hp
  obtain ⟨u, h1, h2⟩ := parseM_ok (2 ^ 64 - 1) (by decide) l 0 hd (by simp only [Int.ofNat_zero, Int.zero_mul, Int.zero_add]; omega)
  refine ⟨u, ?_, by rw [h2]; simp only [Int.ofNat_zero, Int.zero_mul, Int.zero_add]⟩
  unfold Lib.parseUintB
  rw [if_neg h0]
  exact h1
end Go.Proofs.YticebchmafipiaaDoor
