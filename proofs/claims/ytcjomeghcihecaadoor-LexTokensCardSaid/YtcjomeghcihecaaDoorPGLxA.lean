/- Layer 4: letters, digits, what stands behind a backslash: both sides' small functions. Layer 4: what stands behind a backslash: both sides' small functions. Layer 4: what stands behind a backslash. -/
import Derived.Test.YtcjomeghcihecaaDoorPLxP5
import Derived.Test.YtcjomeghcihecaaDoorPKhT
import Derived.Test.YtcjomeghcihecaaDoorPAppS
import Derived.Test.YtcjomeghcihecaaDoorPOwn
import Derived.Test.YtcjomeghcihecaaDoorRows
import Derived.ProofKit
import Derived.OpenShut
import Derived.OwnWalk
import Derived.Lib.Hide
import Derived.Lib.Strings
import Derived.Lib.SmallJoins
import Derived.PlainAid
import Derived.Deep.QuietTactic
import Derived.BigQuiet
import Derived.StillTailTactics
namespace Go.Proofs.YtcjomeghcihecaaDoor
section
open Go Go.ChangeShapes Go.WideShapes Go.ChangeAt Go.RowKit Go.PlainAid
set_option linter.unusedVariables false
set_option linter.unusedSimpArgs false
def isLi (b : Int) : Bool := (decide (97 ≤ b) && decide (b ≤ 122)) || (decide (65 ≤ b) && decide (b ≤ 90)) || decide (b = 95)
def isDi (b : Int) : Bool := decide (48 ≤ b) && decide (b ≤ 57)
theorem isL_int (c : UInt8) : isL c = isLi (c.toNat : Int) := by
  unfold isL isLi
  rw [Bool.eq_iff_iff]
  simp only [Bool.or_eq_true, Bool.and_eq_true, decide_eq_true_eq]
  omega
theorem isD_int (c : UInt8) : isD c = isDi (c.toNat : Int) := by
  unfold isD isDi
  rw [Bool.eq_iff_iff]
  simp only [Bool.and_eq_true, decide_eq_true_eq]
  omega
set_option maxRecDepth 100000 in
set_option maxHeartbeats 800000 in
theorem isLetter_any (b : Int) (w : World) : Calls Tryd.prog 37 #[.int .u8 b] w fun e w' => e = .returned (.bool (isLi b)) ∧ w' = w := by
  go_enter Tryd.func37, Tryd.ntmps37
  go_wp2_with fail
  all_goals refine bodyPost_ret (v := .bool (isLi b)) ?_ rfl ⟨rfl, rfl⟩
  all_goals (simp [results, Tryd.results37, go_sem])
  all_goals (rw [Bool.eq_iff_iff]; simp [isLi]; omega)
set_option maxRecDepth 100000 in
set_option maxHeartbeats 800000 in
theorem isDigit_any (b : Int) (w : World) : Calls Tryd.prog 39 #[.int .u8 b] w fun e w' => e = .returned (.bool (isDi b)) ∧ w' = w := by
  go_enter Tryd.func39, Tryd.ntmps39
  go_wp2_with fail
  all_goals refine bodyPost_ret (v := .bool (isDi b)) ?_ rfl ⟨rfl, rfl⟩
  all_goals (simp [results, Tryd.results39, go_sem])
  all_goals (rw [Bool.eq_iff_iff]; simp [isDi]; omega)
set_option maxRecDepth 100000 in
set_option maxHeartbeats 800000 in
theorem rLetter_any (b : Int) (w : World) : Calls Tryd.prog 26 #[.int .u8 b] w fun e w' => e = .returned (.bool (isLi b)) ∧ w' = w := by
  go_enter Tryd.func26, Tryd.ntmps26
  go_wp2_with fail
  all_goals refine bodyPost_ret (v := .bool (isLi b)) ?_ rfl ⟨rfl, rfl⟩
  all_goals (simp [results, Tryd.results26, go_sem])
  all_goals (rw [Bool.eq_iff_iff]; simp [isLi]; omega)
set_option maxRecDepth 100000 in
set_option maxHeartbeats 800000 in
theorem rDigit_any (b : Int) (w : World) : Calls Tryd.prog 27 #[.int .u8 b] w fun e w' => e = .returned (.bool (isDi b)) ∧ w' = w := by
  go_enter Tryd.func27, Tryd.ntmps27
  go_wp2_with fail
  all_goals refine bodyPost_ret (v := .bool (isDi b)) ?_ rfl ⟨rfl, rfl⟩
  all_goals (simp [results, Tryd.results27, go_sem])
  all_goals (rw [Bool.eq_iff_iff]; simp [isDi]; omega)
end
section
open Go Go.ChangeShapes Go.WideShapes Go.ChangeAt Go.RowKit Go.PlainAid
set_option linter.unusedVariables false
set_option linter.unusedSimpArgs false
def hexI (b : Int) : Int := if isDi b = true then b - 48 else if 97 ≤ b ∧ b ≤ 102 then b - 87 else if 65 ≤ b ∧ b ≤ 70 then b - 55 else -1
theorem hexI_lo (b : Int) : -1 ≤ hexI b ∧ hexI b ≤ 15 := by
  unfold hexI isDi
  simp only [Bool.and_eq_true, decide_eq_true_eq]
  split
  · omega
  · split
    · omega
    · split <;> omega
theorem hexV_int (c : UInt8) : hexV c = if 0 ≤ hexI c.toNat then some (hexI c.toNat).toNat else none := by
  unfold hexV hexI
  rw [isD_int]
  have c1 : (97 ≤ (c.toNat : Int) ∧ (c.toNat : Int) ≤ 102) ↔ (97 ≤ c.toNat ∧ c.toNat ≤ 102) := by omega
  have c2 : (65 ≤ (c.toNat : Int) ∧ (c.toNat : Int) ≤ 70) ↔ (65 ≤ c.toNat ∧ c.toNat ≤ 70) := by omega
  simp only [c1, c2]
  by_cases h : isDi c.toNat = true
  · have h' := h
    unfold isDi at h'
    simp only [Bool.and_eq_true, decide_eq_true_eq] at h'
    rw [if_pos h, if_pos h, if_pos (by omega)]
    congr 1; omega
  · rw [if_neg h, if_neg h]
    by_cases h1 : 97 ≤ c.toNat ∧ c.toNat ≤ 102
    · rw [if_pos h1, if_pos h1, if_pos (by omega)]
      congr 1; omega
    · rw [if_neg h1, if_neg h1]
      by_cases h2 : 65 ≤ c.toNat ∧ c.toNat ≤ 70
      · rw [if_pos h2, if_pos h2, if_pos (by omega)]
        congr 1; omega
      · rw [if_neg h2, if_neg h2, if_neg (by omega)]
theorem u8_in {n : Int} (h0 : 0 ≤ n) (h1 : n ≤ 255) : IntKind.u8.wrap n = n := by rw [IntKind.wrap_u8]; omega
theorem i64_in {n : Int} (h0 : -9223372036854775808 ≤ n) (h1 : n ≤ 9223372036854775807) : IntKind.i64.wrap n = n := by rw [IntKind.wrap_i64]; omega
set_option maxRecDepth 100000 in
set_option maxHeartbeats 800000 in
theorem hexDigit_any (b : Int) (h0 : 0 ≤ b) (h1 : b ≤ 255) (w : World) : Calls Tryd.prog 54 #[.int .u8 b] w fun e w' => e = .returned (.int .i64 (hexI b)) ∧ w' = w := by
  have hd : isDi b = (decide (48 ≤ b) && decide (b ≤ 57)) := rfl
  have HD := Lib.hid hd
  have H0 := Lib.hid h0
  have H1 := Lib.hid h1
  clear hd h0 h1
  go_enter Tryd.func54, Tryd.ntmps54
  go_wp2_with (first | (go_at_call 39; (with_reducible refine (isDigit_any b _).mono ?_); rintro e w1 ⟨rfl, rfl⟩) | fail)
  all_goals refine bodyPost_ret (v := .int .i64 (hexI b)) ?_ rfl ⟨rfl, rfl⟩
  all_goals (simp [results, Tryd.results54, go_sem])
  all_goals (have h0 := H0.out; have h1 := H1.out; simp only [hexI, IntKind.wrap_u8, IntKind.wrap_i64])
  all_goals (simp [isDi] at *)
  all_goals ((repeat' split) <;> omega)
end
section
open Go Go.ChangeShapes Go.WideShapes Go.ChangeAt Go.RowKit Go.PlainAid
set_option linter.unusedVariables false
set_option linter.unusedSimpArgs false
def baseI (s : ByteArray) (k : Nat) : Int := if k < s.size then hexI (bt s k) else -1
set_option maxRecDepth 100000 in
set_option maxHeartbeats 800000 in
theorem base_any (s : ByteArray) (k : Nat) (hs : s.size ≤ 140737488355328) (hk : k ≤ 140737488355328) (w : World) : Calls Tryd.prog 45 #[.string s, .int .i64 k] w fun e w' => e = .returned (.int .i64 (baseI s k)) ∧ w' = w := by
  have hb := get_bt s
  by_cases hlt : k < s.size
  · have hlz : ¬ ((k : Int) ≥ (s.size : Int)) := by omega
    have hv : baseI s k = hexI (bt s k) := by unfold baseI; rw [if_pos hlt]
    rw [hv]
    have H0 := Lib.hid (bt_nonneg s k)
    have H1 := Lib.hid (bt_le s k)
    clear hv
    go_enter Tryd.func45, Tryd.ntmps45
    go_wp2_with (first | (go_at_call 27; (with_reducible refine (rDigit_any (bt s k) _).mono ?_); rintro e w1 ⟨rfl, rfl⟩) | fail)
    all_goals refine bodyPost_ret (v := .int .i64 (hexI (bt s k))) ?_ rfl ⟨rfl, rfl⟩
    all_goals (simp [results, Tryd.results45, go_sem])
    all_goals (have h0 := H0.out; have h1 := H1.out; generalize bt s k = b at *; simp only [hexI, IntKind.wrap_u8, IntKind.wrap_i64])
    all_goals (simp [isDi] at *)
    all_goals ((repeat' split) <;> omega)
  · have hlz : (k : Int) ≥ (s.size : Int) := by omega
    have hv : baseI s k = -1 := by unfold baseI; rw [if_neg hlt]
    rw [hv]
    go_enter Tryd.func45, Tryd.ntmps45
    go_wp2_with fail
    go_ret
    exact ⟨rfl, rfl⟩
def stI (b : Int) : Int := if b = 110 then 10 else if b = 116 then 9 else if b = 92 ∨ b = 39 ∨ b = 34 then b else 0
set_option maxRecDepth 100000 in
set_option maxHeartbeats 800000 in
theorem stands_any (b : Int) (w : World) : Calls Tryd.prog 46 #[.int .u8 b] w fun e w' => e = .returned (.int .u8 (stI b)) ∧ w' = w := by
  go_enter Tryd.func46, Tryd.ntmps46
  go_wp2_with fail
  all_goals refine bodyPost_ret (v := .int .u8 (stI b)) ?_ rfl ⟨rfl, rfl⟩
  all_goals (simp [results, Tryd.results46, go_sem])
  all_goals (simp [stI] at *)
  all_goals (first | done | ((repeat' split) <;> omega))
def escP (s : ByteArray) : Int × Int := if s.size = 0 then (0, 0) else if bt s 0 = 110 then (10, 1) else if bt s 0 = 116 then (9, 1) else if bt s 0 = 92 ∨ bt s 0 = 39 ∨ bt s 0 = 34 then (bt s 0, 1)
  else if bt s 0 = 120 ∧ 3 ≤ s.size ∧ 0 ≤ hexI (bt s 1) ∧ 0 ≤ hexI (bt s 2) then (hexI (bt s 1) * 16 + hexI (bt s 2), 3) else (0, 0)
theorem emptyB (B : ByteArray) : B.toList.isEmpty = decide (B.size = 0) := by
  obtain ⟨⟨l⟩⟩ := B
  have e : (ByteArray.mk ⟨l⟩).toList = l := by simp
  rw [e]
  cases l <;> simp [ByteArray.size]
set_option maxRecDepth 100000 in
set_option maxHeartbeats 1600000 in
theorem escape_any (s : ByteArray) (hs : s.size ≤ 140737488355328) (w : World) : Calls Tryd.prog 51 #[.string s] w fun e w' => e = .returned (.tuple #[.int .u8 (escP s).1, .int .i64 (escP s).2]) ∧ ∃ n, w' = w.drewN n := by
  have hb := get_bt s
  by_cases h0 : s.size = 0
  · have hE : s.toList.isEmpty = true := by rw [emptyB, decide_eq_true h0]
    have hv : escP s = (0, 0) := by unfold escP; rw [if_pos h0]
    rw [hv]
    go_enter Tryd.func51, Tryd.ntmps51
    go_wp2_with fail
    refine bodyPost_ret (v := .tuple #[.int .u8 0, .int .i64 0]) (by simp [results, Tryd.results51, go_sem]) rfl ⟨rfl, 0, rfl⟩
  · have hE : s.toList.isEmpty = false := by rw [emptyB, decide_eq_false h0]
    have h0z : (0 : Int) < (s.size : Int) := by omega
    have h0n : 0 < s.size := by omega
    by_cases hx : bt s 0 = 120
    · have HV := Lib.hid (show escP s = if 3 ≤ s.size ∧ 0 ≤ hexI (bt s 1) ∧ 0 ≤ hexI (bt s 2) then (hexI (bt s 1) * 16 + hexI (bt s 2), 3) else (0, 0) by
        unfold escP
        rw [if_neg h0, hx, if_neg (by decide), if_neg (by decide), if_neg (by decide)]
        simp only [true_and])
      generalize escP s = r at HV ⊢
      by_cases h3 : 3 ≤ s.size
      · have h3z : (s.size : Int) ≥ 3 := by omega
        have h1z : (1 : Int) < (s.size : Int) := by omega
        have h2z : (2 : Int) < (s.size : Int) := by omega
        have h1n : 1 < s.size := by omega
        have h2n : 2 < s.size := by omega
        have HX1 := Lib.hid (fun wx => hexDigit_any (bt s 1) (bt_nonneg s 1) (bt_le s 1) wx)
        have HX2 := Lib.hid (fun wx => hexDigit_any (bt s 2) (bt_nonneg s 2) (bt_le s 2) wx)
        have p1 := hexI_lo (bt s 1)
        have p2 := hexI_lo (bt s 2)
        generalize hexI (bt s 1) = p at p1 HX1 HV
        generalize hexI (bt s 2) = q at p2 HX2 HV
        by_cases hp : 0 ≤ p
        · by_cases hq : 0 ≤ q
          · have e1 : IntKind.i64.wrap (p * 16) = p * 16 := i64_in (by omega) (by omega)
            have e2 : IntKind.i64.wrap (p * 16 + q) = p * 16 + q := i64_in (by omega) (by omega)
            have e3 : IntKind.u8.wrap (p * 16 + q) = p * 16 + q := u8_in (by omega) (by omega)
            have hr : r = (p * 16 + q, 3) := by rw [HV.out, if_pos ⟨h3, hp, hq⟩]
            subst hr
            go_enter Tryd.func51, Tryd.ntmps51
            go_wp2_with (first | (go_at_call 54; (with_reducible refine (HX1.out _).mono ?_); rintro e w1 ⟨rfl, rfl⟩) | (go_at_call 54; (with_reducible refine (HX2.out _).mono ?_); rintro e w1 ⟨rfl, rfl⟩) | fail)
            go_quiet ((first | (go_at_call 54; (with_reducible exact Calls.quiet_of_same (HX1.out _))) | (go_at_call 54; (with_reducible exact Calls.quiet_of_same (HX2.out _)))))
            go_wp2_with fail
            refine bodyPost_ret (v := .tuple #[.int .u8 (p * 16 + q), .int .i64 3]) (by simp [results, Tryd.results51, go_sem]) rfl ⟨rfl, nq, rfl⟩
          · have hr : r = (0, 0) := by rw [HV.out, if_neg (fun h => hq h.2.2)]
            subst hr
            go_enter Tryd.func51, Tryd.ntmps51
            go_wp2_with (first | (go_at_call 54; (with_reducible refine (HX1.out _).mono ?_); rintro e w1 ⟨rfl, rfl⟩) | (go_at_call 54; (with_reducible refine (HX2.out _).mono ?_); rintro e w1 ⟨rfl, rfl⟩) | fail)
            refine bodyPost_ret (v := .tuple #[.int .u8 0, .int .i64 0]) (by simp [results, Tryd.results51, go_sem]) rfl ⟨rfl, 0, rfl⟩
        · have hr : r = (0, 0) := by rw [HV.out, if_neg (fun h => hp h.2.1)]
          subst hr
          go_enter Tryd.func51, Tryd.ntmps51
          go_wp2_with (first | (go_at_call 54; (with_reducible refine (HX1.out _).mono ?_); rintro e w1 ⟨rfl, rfl⟩) | (go_at_call 54; (with_reducible refine (HX2.out _).mono ?_); rintro e w1 ⟨rfl, rfl⟩) | fail)
          refine bodyPost_ret (v := .tuple #[.int .u8 0, .int .i64 0]) (by simp [results, Tryd.results51, go_sem]) rfl ⟨rfl, 0, rfl⟩
      · have h3z : ¬ ((s.size : Int) ≥ 3) := by omega
        have hr : r = (0, 0) := by rw [HV.out, if_neg (fun h => h3 h.1)]
        subst hr
        go_enter Tryd.func51, Tryd.ntmps51
        go_wp2_with fail
        refine bodyPost_ret (v := .tuple #[.int .u8 0, .int .i64 0]) (by simp [results, Tryd.results51, go_sem]) rfl ⟨rfl, 0, rfl⟩
    · have HV := Lib.hid (show escP s = if bt s 0 = 110 then (10, 1) else if bt s 0 = 116 then (9, 1) else if bt s 0 = 92 ∨ bt s 0 = 39 ∨ bt s 0 = 34 then (bt s 0, 1) else (0, 0) by
        unfold escP
        rw [if_neg h0, if_neg (c := bt s 0 = 120 ∧ 3 ≤ s.size ∧ 0 ≤ hexI (bt s 1) ∧ 0 ≤ hexI (bt s 2)) (fun h => hx h.1)])
      have hxb : (bt s 0 == 120) = false := by simpa using hx
      generalize escP s = r at HV ⊢
      go_enter Tryd.func51, Tryd.ntmps51
      go_wp2_with fail
      all_goals refine bodyPost_ret (v := .tuple #[.int .u8 r.1, .int .i64 r.2]) ?_ rfl ⟨rfl, 0, rfl⟩
      all_goals (rw [HV.out]; simp [results, Tryd.results51, go_sem])
      all_goals (simp_all)
end
end Go.Proofs.YtcjomeghcihecaaDoor
