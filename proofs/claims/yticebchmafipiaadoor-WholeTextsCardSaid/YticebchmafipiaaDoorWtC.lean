/- Layer 2: what Parse calls of Go's library: the sign cut, the noughts cut, a number read. -/
import Derived.Test.YticebchmafipiaaDoorWtN
import Derived.Test.YticebchmafipiaaDoorShelf2
import Derived.Lib.SmallJoins
namespace Go.Proofs.YticebchmafipiaaDoor
open Go Go.ChangeShapes Go.WideShapes Go.ChangeAt Go.RowKit Go.PlainAid Go.Joins
set_option linter.unusedVariables false
set_option linter.unusedSimpArgs false
def bodyT (s : ByteArray) : ByteArray := ⟨(s.data.toList.drop (fromT s)).toArray⟩
theorem list_size (l : List UInt8) : (⟨l.toArray⟩ : ByteArray).size = l.length := by rw [Lib.size_eq]
theorem hasPrefixT (s : ByteArray) : Lib.hasPrefix s.data.toList [45] = negT s := by
  unfold Lib.hasPrefix negT
  have hs := Lib.size_eq s
  by_cases h0 : s.size = 0
  · have : s.data.toList = [] := List.length_eq_zero_iff.1 (by omega)
    rw [this, h0]; rfl
  · obtain ⟨c, r, hl⟩ : ∃ c r, s.data.toList = c :: r := by
      cases hl : s.data.toList with
      | nil => exact absurd (show s.size = 0 by rw [Lib.size_eq, hl]; rfl) h0
      | cons c r => exact ⟨c, r, rfl⟩
    have hb : bt s 0 = (c.toNat : Int) := by rw [bt_list s (by omega)]; simp only [hl, List.getElem_cons_zero]
    rw [hb, hl, decide_eq_true (show 0 < s.size by omega), Bool.true_and]
    simp only [List.isPrefixOf, Bool.and_true]
    rw [Bool.eq_iff_iff, beq_iff_eq, beq_iff_eq]
    constructor
    · intro e; subst e; rfl
    · intro e
      have : c.toNat = 45 := by omega
      exact (UInt8.toNat_inj.1 (by rw [this]; rfl)).symm
theorem trimPrefixT (s : ByteArray) : Lib.trimPrefix s.data.toList [45] = s.data.toList.drop (fromT s) := by
  unfold Lib.trimPrefix fromT
  rw [hasPrefixT]
  cases negT s <;> simp
theorem cutPrefix_any (s : ByteArray) (w : World) : Calls Tryd.prog 27 #[.string s, .string ⟨#[45]⟩] w fun e w' => e = .returned (.tuple #[.string (bodyT s), .bool (negT s)]) ∧ w' = w := by
  have h := Tryd.strings_CutPrefix s ⟨#[45]⟩ w
  rw [show (⟨#[45]⟩ : ByteArray).data.toList = [45] from rfl, hasPrefixT, trimPrefixT] at h
  exact h
def trimT (s : ByteArray) : ByteArray := ⟨(s.data.toList.dropWhile (· == 48)).toArray⟩
theorem trimLeft_any (s : ByteArray) (w : World) : Calls Tryd.prog 28 #[.string s, .string ⟨#[48]⟩] w fun e w' => e = .returned (.string (trimT s)) ∧ w' = w :=
  Tryd.strings_TrimLeft_one s 48 (by decide) w
theorem parseUint_any (s : ByteArray) (w : World) (h0 : s.size ≠ 0) (hd : AllDig s.data.toList) (hl : s.size ≤ 18) :
    Calls Tryd.prog 29 #[.string s, .int .i64 10, .int .i64 64] w fun e w' => e = .returned (.tuple #[.int .u64 (spell s.data.toList), .nilIface]) ∧ Below w.heap.size w w' := by
  have hs := Lib.size_eq s
  obtain ⟨u, h1, h2⟩ := parse_ok (l := s.data.toList) (fun e => h0 (by rw [hs, e]; rfl)) hd (by omega)
  refine (Tryd.strconv_ParseUint_10_at64_ok s (by omega) u h1 w).mono ?_
  rintro e w' ⟨rfl, hw⟩
  refine ⟨by rw [h2], ?_⟩
  rcases hw with rfl | rfl
  · exact Below.refl _ _
  · exact below_bytesWorld _ _ _ _ (Nat.le_refl _)
end Go.Proofs.YticebchmafipiaaDoor
