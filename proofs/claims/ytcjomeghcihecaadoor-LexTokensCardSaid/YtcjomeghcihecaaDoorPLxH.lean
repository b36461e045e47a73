/- Layer 4: digits, and what stands at a place. -/
import Derived.Test.YtcjomeghcihecaaDoorPLxG
namespace Go.Proofs.YtcjomeghcihecaaDoor
open Go Go.ChangeShapes Go.WideShapes Go.ChangeAt Go.RowKit Go.PlainAid Go.Maps
set_option linter.unusedVariables false
set_option linter.unusedSimpArgs false
theorem dig_step {s : ByteArray} {k : Nat} (h : k < s.size) (hc : isDi (bt s k) = true) : digN (Rs s k) = digN (Rs s (k + 1)) + 1 := by
  obtain ⟨c, h1, h2⟩ := Rs_cons h
  rw [h1, digN_head (by rw [isD_int, ← h2]; exact hc)]
theorem dig_stop {s : ByteArray} {k : Nat} (h : k < s.size) (hc : isDi (bt s k) = false) : digN (Rs s k) = 0 := by
  obtain ⟨c, h1, h2⟩ := Rs_cons h
  rw [h1]
  unfold digN
  rw [List.takeWhile_cons, if_neg (by rw [isD_int, ← h2, hc]; decide)]
  rfl
theorem dig_len_le (s : ByteArray) (k : Nat) : digN (Rs s k) ≤ s.size - k := by rw [← Rs_len]; exact digN_le _
theorem dig_end {s : ByteArray} {k : Nat} (h : s.size ≤ k) : digN (Rs s k) = 0 := by rw [Rs_end h]; rfl
set_option maxRecDepth 100000 in
set_option maxHeartbeats 1600000 in
theorem digits_any {w : World} {x : Nat} {s : ByteArray} (c0 : w.cell? ⟨x, 0, none⟩ = some (.string s)) (hs : s.size ≤ 20000) (i : Nat) (hi : i ≤ s.size) :
    Calls Tryd.prog 49 #[.pointer (some ⟨x, 0, none⟩), .int .i64 i] w fun e w' => e = .returned (.int .i64 (i + digN (Rs s i) : Nat)) ∧ w' = w := by
  have hb := get_bt s
  have HB := Lib.hid (dig_len_le s i)
  go_enter Tryd.func49, Tryd.ntmps49
  go_wp2_with fail
  go_loopw [1] (fun iv wr => ∃ j : Nat, iv = .int .i64 j ∧ i ≤ j ∧ j ≤ s.size ∧ digN (Rs s i) = (j - i) + digN (Rs s j) ∧ wr = w) (fun iv _ => s.size - (intOf iv).toNat)
  case atStart => exact ⟨i, rfl, Nat.le_refl _, hi, by omega, rfl⟩
  case round =>
    obtain ⟨j, rfl, hij, hjs, hd, rfl⟩ := hrel
    have HD := Lib.hid hd
    clear hd
    by_cases hlt : j < s.size
    · have hlz : (j : Int) < (s.size : Int) := by omega
      cases hc : isDi (bt s j)
      · have hv : i + digN (Rs s i) = j := by
          have h1 := dig_stop hlt hc
          have h2 := HD.out
          omega
        go_wp2_with (first | (go_at_call 39; (with_reducible refine (isDigit_any (bt s j) _).mono ?_); rintro e w1 ⟨rfl, rfl⟩) | fail)
        refine bodyPost_ret (v := .int .i64 (j : Int)) (by simp [results, Tryd.results49, go_sem]) rfl ⟨?_, rfl⟩
        first | rfl | rw [hv]
      · go_wp2_with (first | (go_at_call 39; (with_reducible refine (isDigit_any (bt s j) _).mono ?_); rintro e w1 ⟨rfl, rfl⟩) | fail)
        go_roundw
        case rel =>
          refine ⟨j + 1, by go_num, by omega, by omega, ?_, by first | rfl | trivial⟩
          have h1 := dig_step hlt hc
          have h2 := HD.out
          omega
        case measure => simp [intOf]; omega
    · have hlz : ¬ (j : Int) < (s.size : Int) := by omega
      have hv : i + digN (Rs s i) = j := by
        have h1 := dig_end (s := s) (k := j) (by omega)
        have h2 := HD.out
        omega
      go_wp2_with fail
      refine bodyPost_ret (v := .int .i64 (j : Int)) (by simp [results, Tryd.results49, go_sem]) rfl ⟨?_, rfl⟩
      first | rfl | rw [hv]
end Go.Proofs.YtcjomeghcihecaaDoor
