/- Layer 12: roots.Count and the document's Count. -/
import Derived.Test.YtnniohimbmnapaaDoorFBits
import Derived.Test.YtnniohimbmnapaaDoorPop
import Derived.Laws.Bits128
namespace Go.Proofs.YtnniohimbmnapaaDoor
open Go Go.ChangeShapes Go.WideShapes Go.RowKit
set_option linter.unusedVariables false
set_option linter.unusedSimpArgs false
theorem and_word {a m c : Nat} (ha : a < 18446744073709551616) (hm : m < 18446744073709551616) (hc : a &&& m = c) : bits .and .u64 (a : Int) (m : Int) = (c : Int) := by
  rw [u64_and_nat a m ha hm, hc]
theorem popW_le (x : Nat) : popW x ≤ 64 := by
  have := List.countP_le_length (p := fun j => x.testBit j) (l := List.range 64)
  simpa [popW] using this
set_option maxHeartbeats 4000000 in
theorem ones_any (x : Nat) (hx : x < 18446744073709551616) (w : World) : Calls Tryd.prog 55 #[.int .u64 (x : Int)] w fun e w' => e = .returned (.int .i64 ((popW x : Nat) : Int)) ∧ w = w' := by
  obtain ⟨d1, hd1⟩ : ∃ d, x / 2 = d := ⟨_, rfl⟩
  obtain ⟨c1, hc1⟩ : ∃ c, d1 &&& 6148914691236517205 = c := ⟨_, rfl⟩
  obtain ⟨c2, hc2⟩ : ∃ c, x &&& 6148914691236517205 = c := ⟨_, rfl⟩
  have l1 : c1 ≤ 6148914691236517205 := hc1 ▸ Nat.and_le_right
  have l2 : c2 ≤ 6148914691236517205 := hc2 ▸ Nat.and_le_right
  obtain ⟨y1, hy1⟩ : ∃ y, c1 + c2 = y := ⟨_, rfl⟩
  obtain ⟨d2, hd2⟩ : ∃ d, y1 / 4 = d := ⟨_, rfl⟩
  obtain ⟨c3, hc3⟩ : ∃ c, d2 &&& 3689348814741910323 = c := ⟨_, rfl⟩
  obtain ⟨c4, hc4⟩ : ∃ c, y1 &&& 3689348814741910323 = c := ⟨_, rfl⟩
  have l3 : c3 ≤ 3689348814741910323 := hc3 ▸ Nat.and_le_right
  have l4 : c4 ≤ 3689348814741910323 := hc4 ▸ Nat.and_le_right
  obtain ⟨y2, hy2⟩ : ∃ y, c3 + c4 = y := ⟨_, rfl⟩
  obtain ⟨d3, hd3⟩ : ∃ d, y2 / 16 = d := ⟨_, rfl⟩
  obtain ⟨t3, ht3⟩ : ∃ t, d3 + y2 = t := ⟨_, rfl⟩
  obtain ⟨y3, hy3⟩ : ∃ y, t3 &&& 1085102592571150095 = y := ⟨_, rfl⟩
  obtain ⟨d4, hd4⟩ : ∃ d, y3 / 256 = d := ⟨_, rfl⟩
  obtain ⟨y4, hy4⟩ : ∃ y, y3 + d4 = y := ⟨_, rfl⟩
  obtain ⟨d5, hd5⟩ : ∃ d, y4 / 65536 = d := ⟨_, rfl⟩
  obtain ⟨y5, hy5⟩ : ∃ y, y4 + d5 = y := ⟨_, rfl⟩
  obtain ⟨d6, hd6⟩ : ∃ d, y5 / 4294967296 = d := ⟨_, rfl⟩
  obtain ⟨y6, hy6⟩ : ∃ y, y5 + d6 = y := ⟨_, rfl⟩
  have hA : pA x = y1 := by unfold pA; rw [hd1, hc1, hc2, hy1]
  have hB : pB y1 = y2 := by unfold pB; rw [hd2, hc3, hc4, hy2]
  have hC : pC y2 = y3 := by unfold pC; rw [hd3, ht3, hy3]
  obtain ⟨p1, p2, p3⟩ := pop_all hx (x4 := y4) (x5 := y5) (x6 := y6) (by rw [hA, hB, hC, hd4, hy4]) (by rw [hd5, hy5]) (by rw [hd6, hy6])
  rw [hA, hB, hC] at p1
  have hpl := popW_le x
  have l5 : y1 < 18446744073709551616 := by omega
  have l6 : y2 < 18446744073709551616 := by omega
  have l7 : t3 < 18446744073709551616 := by omega
  have l8 : y4 < 18446744073709551616 := by omega
  have l9 : y5 < 18446744073709551616 := by omega
  have e1 : (x : Int) / 2 = (d1 : Int) := by omega
  have e2 : bits .and .u64 (d1 : Int) 6148914691236517205 = (c1 : Int) := and_word (m := 6148914691236517205) (by omega) (by decide) hc1
  have e3 : bits .and .u64 (x : Int) 6148914691236517205 = (c2 : Int) := and_word (m := 6148914691236517205) hx (by decide) hc2
  have e4 : (c1 : Int) + (c2 : Int) = (y1 : Int) := by omega
  have e5 : (y1 : Int) / 4 = (d2 : Int) := by omega
  have e6 : bits .and .u64 (d2 : Int) 3689348814741910323 = (c3 : Int) := and_word (m := 3689348814741910323) (by omega) (by decide) hc3
  have e7 : bits .and .u64 (y1 : Int) 3689348814741910323 = (c4 : Int) := and_word (m := 3689348814741910323) l5 (by decide) hc4
  have e8 : (c3 : Int) + (c4 : Int) = (y2 : Int) := by omega
  have e9 : (y2 : Int) / 16 = (d3 : Int) := by omega
  have e10 : (d3 : Int) + (y2 : Int) = (t3 : Int) := by omega
  have e11 : bits .and .u64 (t3 : Int) 1085102592571150095 = (y3 : Int) := and_word (m := 1085102592571150095) l7 (by decide) hy3
  have e12 : (y3 : Int) / 256 = (d4 : Int) := by omega
  have e13 : (y3 : Int) + (d4 : Int) = (y4 : Int) := by omega
  have e14 : (y4 : Int) / 65536 = (d5 : Int) := by omega
  have e15 : (y4 : Int) + (d5 : Int) = (y5 : Int) := by omega
  have e16 : (y5 : Int) / 4294967296 = (d6 : Int) := by omega
  have e17 : (y5 : Int) + (d6 : Int) = (y6 : Int) := by omega
  have e18 : bits .and .i64 (y6 : Int) 127 = ((popW x : Nat) : Int) := by rw [i64_and127]; omega
  generalize popW x = pw at e18 hpl p3
  have k1 : (y1 : Int) < 18446744073709551616 := by omega
  have k2 : (y2 : Int) < 18446744073709551616 := by omega
  have k3 : (t3 : Int) < 18446744073709551616 := by omega
  have k4 : (y4 : Int) < 18446744073709551616 := by omega
  have k5 : (y5 : Int) < 18446744073709551616 := by omega
  have k6 : (y6 : Int) < 9223372036854775808 := by omega
  clear hd1 hc1 hc2 hy1 hd2 hc3 hc4 hy2 hd3 ht3 hy3 hd4 hy4 hd5 hy5 hd6 hy6 hA hB hC p1 p3
  go_enter Tryd.func55, Tryd.ntmps55
  go_wp2_with fail
  go_ret
  exact ⟨rfl, rfl⟩
def popL (ws : List Nat) : Nat := (ws.map popW).sum
theorem popL_le (ws : List Nat) : popL ws ≤ 64 * ws.length := by
  induction ws with
  | nil => simp [popL]
  | cons x ws ih =>
    have := popW_le x
    unfold popL at ih ⊢
    simp only [List.map_cons, List.sum_cons, List.length_cons]
    omega
theorem popL_snoc (ws : List Nat) (x : Nat) : popL (ws ++ [x]) = popL ws + popW x := by simp [popL]
theorem popL_take {ws : List Nat} {k : Nat} (hk : k < ws.length) : popL (ws.take (k + 1)) = popL (ws.take k) + popW (ws.getD k 0) := by
  rw [List.take_succ_eq_append_getElem hk, popL_snoc, List.getD_eq_getElem?_getD, List.getElem?_eq_getElem hk]; rfl
/-- How many registers below n are in the row. -/
def cntW (ws : List Nat) (n : Nat) : Nat := (List.range n).countP fun r => hasW ws r
theorem cntW_succ (ws : List Nat) (n : Nat) : cntW ws (n + 1) = cntW ws n + if hasW ws n then 1 else 0 := by
  unfold cntW
  rw [List.range_succ, List.countP_append]
  simp [List.countP_cons]
theorem cntW_le (ws : List Nat) (n : Nat) : cntW ws n ≤ n := by
  have := List.countP_le_length (p := fun r => hasW ws r) (l := List.range n)
  simpa [cntW] using this
theorem cntW_all : ∀ (ws : List Nat), cntW ws (64 * ws.length) = popL ws
  | [] => by simp [cntW, popL]
  | x :: ws => by
    have ih := cntW_all ws
    have hb : ∀ j, hasW (x :: ws) j = if j < 64 then x.testBit j else hasW ws (j - 64) := fun j => by
      unfold hasW
      by_cases h : j < 64
      · rw [if_pos h, Nat.div_eq_of_lt h, Nat.mod_eq_of_lt h]; rfl
      · rw [if_neg h, show j / 64 = (j - 64) / 64 + 1 by omega, show j % 64 = (j - 64) % 64 by omega]; rfl
    unfold cntW at ih ⊢
    rw [List.length_cons, show 64 * (ws.length + 1) = 64 + 64 * ws.length by omega, List.range_add, List.countP_append, List.countP_map]
    show _ = popL (x :: ws)
    have h1 : ((List.range 64).countP fun r => hasW (x :: ws) r) = popW x := List.countP_congr fun j hj => by
      rw [hb j, if_pos (List.mem_range.1 hj)]
    have h2 : ((List.range (64 * ws.length)).countP ((fun r => hasW (x :: ws) r) ∘ fun y => 64 + y)) = (List.range (64 * ws.length)).countP fun r => hasW ws r := List.countP_congr fun j hj => by
      simp only [Function.comp]
      rw [hb, if_neg (by omega), show 64 + j - 64 = j by omega]
    rw [show popL (x :: ws) = popW x + popL ws by simp [popL], ← ih, h1, h2]
set_option maxHeartbeats 1000000 in
theorem count_any (v : Value) (ws : List Nat) (w : World) (h : Rw w v ws) : Calls Tryd.prog 37 #[v] w fun e w' => e = .returned (.int .i64 ((popL ws : Nat) : Int)) ∧ w = w' := by
  have hw := h.2
  obtain ⟨p, c, rfl, hc, hm, hp⟩ := rw_form h
  have HP := Lib.hid hp
  have HW := Lib.hid hw
  clear hp h hw
  go_enter Tryd.func37, Tryd.ntmps37
  go_wp2_with fail
  go_loop [3, 8] (fun s3 s8 => ∃ k n : Nat, popL (ws.take k) = n ∧ s3 = .int .i64 n ∧ s8 = .int .i64 k ∧ k ≤ ws.length) (fun _ s8 => ws.length - (intOf s8).toNat)
  case atStart => exact ⟨0, 0, rfl, rfl, rfl, Nat.zero_le _⟩
  case round =>
    obtain ⟨k, n, hn, rfl, rfl, hk⟩ := hrel
    have hnl : n ≤ 64 * k := by
      have := popL_le (ws.take k)
      rw [hn, List.length_take] at this
      omega
    have HN := Lib.hid hn
    clear hn
    by_cases hlt : k < ws.length
    · obtain ⟨b, off, rfl, hcell⟩ := HP.out k hlt
      have HT := Lib.hid (popL_take hlt)
      have HD := Lib.hid (HW.out k)
      generalize ws.getD k 0 = d at hcell HT HD
      have hpl := popW_le d
      have HO := Lib.hid (ones_any d HD.out)
      obtain ⟨q, hq⟩ : ∃ q, popW d = q := ⟨_, rfl⟩
      rw [hq] at HT hpl HO
      have hlz : (k : Int) < (ws.length : Int) := by omega
      clear hq
      go_wp2_with (first | (go_at_call 55; (with_reducible refine (HO.out _).mono ?_); rintro e w9 ⟨rfl, rfl⟩) | fail)
      go_round
      case rel => exact ⟨k + 1, n + q, by rw [HT.out, HN.out], by go_num, by go_num, by omega⟩
      case measure => simp [intOf]; omega
    · have hlz : ¬ (k : Int) < (ws.length : Int) := by omega
      have HE := Lib.hid (show popL ws = n by rw [← HN.out, List.take_of_length_le (by omega)])
      go_wp2_with fail
      go_ret
      exact ⟨by rw [HE.out]; rfl, rfl⟩
set_option maxHeartbeats 1000000 in
theorem rcount_any (v : Value) (ws : List Nat) (w : World) (h : Rw w v ws) : Calls Tryd.prog 38 #[v] w fun e w' => e = .returned (.int .i64 ((popL ws : Nat) : Int)) ∧ w = w' := by
  have HI := Lib.hid (fun (q : Nat) (hq : (q : Int) < 9223372036854775808) => is_any v ws q w h hq (by omega))
  obtain ⟨p, c, rfl, hc, hm, hp⟩ := rw_form h
  clear hp h
  go_enter Tryd.func38, Tryd.ntmps38
  go_wp2_with fail
  go_loop [3, 4] (fun s3 s4 => ∃ k n : Nat, cntW ws k = n ∧ s3 = .int .i64 n ∧ s4 = .int .i64 k ∧ k ≤ 64 * ws.length) (fun _ s4 => 64 * ws.length - (intOf s4).toNat)
  case atStart => exact ⟨0, 0, rfl, rfl, rfl, Nat.zero_le _⟩
  case round =>
    obtain ⟨k, n, hn, rfl, rfl, hk⟩ := hrel
    have hnl : n ≤ k := hn ▸ cntW_le ws k
    have HN := Lib.hid hn
    clear hn
    by_cases hlt : k < 64 * ws.length
    · have HS := Lib.hid (cntW_succ ws k)
      have HC := Lib.hid (HI.out k (by omega))
      rw [isB_nat] at HC
      have hlz : (k : Int) < 64 * (ws.length : Int) := by omega
      cases hb : hasW ws k with
      | true =>
        rw [hb] at HC HS
        clear hb
        go_wp2_with (first | (go_at_call 27; (with_reducible refine HC.out.mono ?_); rintro e w9 ⟨rfl, rfl⟩) | fail)
        go_round
        case rel => exact ⟨k + 1, n + 1, by rw [HS.out, HN.out]; rfl, by go_num, by go_num, by omega⟩
        case measure => simp [intOf]; omega
      | false =>
        rw [hb] at HC HS
        clear hb
        go_wp2_with (first | (go_at_call 27; (with_reducible refine HC.out.mono ?_); rintro e w9 ⟨rfl, rfl⟩) | fail)
        go_round
        case rel => exact ⟨k + 1, n, by rw [HS.out, HN.out]; rfl, rfl, by go_num, by omega⟩
        case measure => simp [intOf]; omega
    · have hlz : ¬ (k : Int) < 64 * (ws.length : Int) := by omega
      have HE := Lib.hid (show popL ws = n by rw [← HN.out, ← cntW_all, show k = 64 * ws.length by omega])
      go_wp2_with fail
      go_ret
      exact ⟨by rw [HE.out]; rfl, rfl⟩
end Go.Proofs.YtnniohimbmnapaaDoor
