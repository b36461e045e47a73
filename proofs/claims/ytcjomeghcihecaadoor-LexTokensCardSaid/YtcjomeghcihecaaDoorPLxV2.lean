/- Layer 4: the document's names. -/
import Derived.Test.YtcjomeghcihecaaDoorPLxV
namespace Go.Proofs.YtcjomeghcihecaaDoor
open Go Go.ChangeShapes Go.WideShapes Go.ChangeAt Go.RowKit Go.PlainAid Go.Maps
set_option linter.unusedVariables false
set_option linter.unusedSimpArgs false
theorem bt_mem {l : Bs} {k : Nat} (h : k < (bsOf l).size) : ∃ c ∈ l, bt (bsOf l) k = (c.toNat : Int) := by
  obtain ⟨c, h1, h2⟩ := Rs_cons h
  refine ⟨c, ?_, h2⟩
  have hm : c ∈ Rs (bsOf l) k := by rw [h1]; exact List.mem_cons_self
  exact List.mem_of_mem_drop hm
theorem bt_zero {c : UInt8} {r : Bs} : bt (bsOf (c :: r)) 0 = (c.toNat : Int) := by
  have h : 0 < (bsOf (c :: r)).size := by rw [Lib.size_eq]; simp [bsOf]
  obtain ⟨d, h1, h2⟩ := Rs_cons h
  rw [h2]
  have e : Rs (bsOf (c :: r)) 0 = c :: r := rfl
  rw [e] at h1
  simp only [List.cons.injEq] at h1
  rw [h1.1]
set_option maxRecDepth 100000 in
set_option maxHeartbeats 2000000 in
theorem isname_yes (l : Bs) (w : World) (h : isNameB l = true) (hl : l.length ≤ 140737488355328) : Calls Tryd.prog 13 #[.string (bsOf l)] w fun e w' => e = .returned (.bool true) ∧ w' = w := by
  have hw : wordsB.contains l = false := by
    cases l with
    | nil => decide
    | cons c r => simp only [isNameB, Bool.and_eq_true, Bool.not_eq_true'] at h; exact h.2
  have h0 : isLi (bt (bsOf l) 0) = true := by
    cases l with
    | nil => simp [isNameB] at h
    | cons c r => simp only [isNameB, Bool.and_eq_true] at h; rw [bt_zero, ← isL_int]; exact h.1.1
  have hall : ∀ k, k < (bsOf l).size → isLi (bt (bsOf l) k) = true ∨ (isLi (bt (bsOf l) k) = false ∧ isDi (bt (bsOf l) k) = true) := fun k hk => by
    obtain ⟨c, hc, e⟩ := bt_mem hk
    have hx : isLD c = true := by
      cases l with
      | nil => simp [isNameB] at h
      | cons d r => simp only [isNameB, Bool.and_eq_true] at h; exact List.all_eq_true.1 h.1.2 c hc
    rw [e, ← isL_int, ← isD_int]
    unfold isLD at hx
    cases hL : isL c
    · rw [hL] at hx; exact .inr ⟨rfl, by simpa using hx⟩
    · exact .inl rfl
  have hz : 0 < (bsOf l).size := by
    rw [Lib.size_eq]
    cases l with
    | nil => simp [isNameB] at h
    | cons c r => simp [bsOf]
  have hsz : (bsOf l).size ≤ 140737488355328 := by rw [Lib.size_eq]; exact hl
  have hne : (bsOf l).toList.isEmpty = false := by
    cases l with
    | nil => simp [isNameB] at h
    | cons c r => simp [bsOf]
  have HW := Lib.hid (fun wx => isword_any l wx)
  rw [hw] at HW
  clear hw h hl
  obtain ⟨s, hsq⟩ : ∃ s, bsOf l = s := ⟨_, rfl⟩
  rw [hsq] at h0 hall hz hsz hne HW ⊢
  clear hsq
  have hgs := get_bt s
  have HALL := Lib.hid hall
  clear hall
  go_enter Tryd.func13, Tryd.ntmps13
  go_wp2_with (first | (go_at_call 26; (with_reducible refine (rLetter_any (bt s 0) _).mono ?_); rintro e w1 ⟨rfl, hw1⟩; (have hw2 := hw1.symm; clear hw1; subst hw2)) | (go_at_call 14; (with_reducible refine (HW.out _).mono ?_); rintro e w1 ⟨rfl, hw1⟩; (have hw2 := hw1.symm; clear hw1; subst hw2)) | fail)
  go_loopw [3] (fun s3 wr => ∃ k : Nat, s3 = .int .i64 k ∧ k ≤ s.size ∧ w = wr) (fun s3 wr => s.size - (intOf s3).toNat)
  case atStart => exact ⟨0, by go_num, Nat.zero_le _, rfl⟩
  case round =>
    obtain ⟨k, rfl, hk, rfl⟩ := hrel
    have w1x : IntKind.i64.wrap ((k : Int) + 1) = (k : Int) + 1 := i64_in (by omega) (by omega)
    by_cases hlt : k < s.size
    · have hlz : (k : Int) < (s.size : Int) := by omega
      rcases HALL.out k hlt with hc | ⟨hc, hd⟩
      all_goals
        go_wp2_with (first | (go_at_call 26; (with_reducible refine (rLetter_any (bt s k) _).mono ?_); rintro e w1 ⟨rfl, hw1⟩; (have hw2 := hw1.symm; clear hw1; subst hw2)) | (go_at_call 27; (with_reducible refine (rDigit_any (bt s k) _).mono ?_); rintro e w1 ⟨rfl, hw1⟩; (have hw2 := hw1.symm; clear hw1; subst hw2)) | fail)
        go_roundw
        case rel => exact ⟨k + 1, by go_num, by omega, by first | rfl | trivial⟩
        case measure => simp [intOf]; omega
    · have hlz : ¬ (k : Int) < (s.size : Int) := by omega
      go_wp2_with fail
      go_ret
      exact ⟨rfl, rfl⟩
end Go.Proofs.YtcjomeghcihecaaDoor
