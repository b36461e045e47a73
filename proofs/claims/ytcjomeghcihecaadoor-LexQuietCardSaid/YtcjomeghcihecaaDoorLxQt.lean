/- Layer 4: the law LexQuiet. -/
import Derived.Test.YtcjomeghcihecaaDoorLxB2
namespace Go.Proofs.YtcjomeghcihecaaDoor
open Go Go.ChangeShapes Go.WideShapes Go.ChangeAt Go.RowKit Go.PlainAid Go.Maps
set_option linter.unusedVariables false
set_option linter.unusedSimpArgs false
def noteB : Bs := [10, 32, 32, 32, 10, 32, 32, 35, 32]
theorem noNl_snoc {m : Bs} {c : UInt8} (h : NoNl m) (hc : c ≠ 10) : NoNl (m ++ [c]) := by
  unfold NoNl at h ⊢
  intro h2
  rcases List.mem_append.1 h2 with h3 | h3
  · exact h h3
  · exact hc (by have h4 := List.mem_singleton.1 h3; exact h4.symm)
theorem quiet_at {src m : Bs} (hm : NoNl m) (hl : (noteB ++ m ++ [10] ++ src).length ≤ 20000) : lexD (noteB ++ m ++ [10] ++ src) = match lexD src with
    | .error e => .error (e.1 + 3, e.2)
    | .ok ts => .ok (ts.map (shT 3)) := by
  have h := lexD_quiet hm (src := src) (by unfold noteB at hl; exact hl)
  unfold noteB
  exact h
set_option maxRecDepth 100000 in
set_option maxHeartbeats 8000000 in
theorem law_quiet (v1 : Value) (l : Bs) (s : ByteArray) (w : World) (hr : R8 w v1 l) (hl : l.length ≤ 140737488351232) (hs : s.size ≤ 140737488355328) (htab : Lib.TabIs Tryd.prog w "strings.asciiSpace" .u8 Lib.asciiSpaceTab) :
    Calls Tryd.prog 5 #[v1, .string s] w fun e w' => e = .returned (.bool true) ∧ Below w.heap.size w w' := by
  have HR := Lib.hid hr
  have HTAB := Lib.hid htab
  obtain ⟨p, c, rfl⟩ := r8_form hr
  have hgs := get_bt s
  clear hr htab
  go_enter Tryd.func5, Tryd.ntmps5
  go_wp2_with fail
  refine (known04 w HTAB.out).mono ?_
  rintro e w1 ⟨rfl, hb1⟩
  have HB1 := Lib.hid hb1
  clear hb1
  go_wp2_with fail
  refine (lex_any _ l w1 (HR.out.keep HB1.out) (tabS_keep HTAB.out HB1.out)).mono ?_
  intro e w3 hlp
  obtain ⟨v5, la, ea, rfl⟩ := lexP_form hlp
  have HB3 := Lib.hid (HB1.out.trans (hlp.below.mono HB1.out.size))
  have HLP := Lib.hid hlp
  clear hlp
  have hcs := Go.Joins.run_convert_bytes_const_at (P := Tryd.prog) w3 22 5 #[.int .u8 10, .int .u8 32, .int .u8 32, .int .u8 32, .int .u8 10, .int .u8 32, .int .u8 32, .int .u8 35, .int .u8 32] 9 9 w3.heap.size rfl rfl rfl
  go_wp2_with fail
  obtain ⟨B, hBq⟩ : ∃ b, w3.heap.size = b := ⟨_, rfl⟩
  obtain ⟨W4, hW4⟩ : ∃ W, w3.alloc (.cells #[.int .u8 10, .int .u8 32, .int .u8 32, .int .u8 32, .int .u8 10, .int .u8 32, .int .u8 32, .int .u8 35, .int .u8 32] 5 (9, 10)) = W := ⟨_, rfl⟩
  have hB4 : Below B w3 W4 := by rw [← hW4, ← hBq]; exact (Below.refl _ _).alloc (Nat.le_refl _) _
  have hN4 : Nt B B noteB W4 (.slice (some ⟨B, 0, none⟩) 9 9) noteB := .inl ⟨rfl, rfl, (9, 10), by rw [← hW4, ← hBq]; exact heap_alloc_new _ _⟩
  have hwB : w.heap.size ≤ B := by rw [← hBq]; exact HB3.out.size
  have hB3q : w3.heap.size ≤ B := by omega
  rw [hBq]
  rw [hW4]
  clear hW4 hcs
  go_loopw [8, 9] (fun v8 i9 wr => ∃ (i : Nat) (m N : Bs), i9 = .int .i64 i ∧ i ≤ 100 ∧ m.length ≤ i ∧ NoNl m ∧ N = noteB ++ m ∧ Nt B B noteB wr v8 N ∧ Below B w3 wr) (fun v8 i9 wr => 100 - (intOf i9).toNat)
  case atStart => exact ⟨0, [], noteB, by go_num, by omega, by simp, by unfold NoNl; simp, rfl, hN4, hB4⟩
  case round =>
    obtain ⟨i, m, N, rfl, hi, hml, hnl, hEq, hN, hB⟩ := hrel
    have w1 : IntKind.i64.wrap ((i : Int) + 1) = (i : Int) + 1 := i64_in (by omega) (by omega)
    have HNL := Lib.hid hnl
    have HN := Lib.hid hN
    have HB := Lib.hid hB
    obtain ⟨p8, k8, rfl⟩ := hN.form
    have hlen : N.length ≤ 109 := by rw [hEq, List.length_append]; have : noteB.length = 9 := rfl; omega
    have HEQ := Lib.hid hEq
    have hBs : B ≤ wr.heap.size := by have := hB.size; omega
    clear hnl hN hB hN4 hB4 hEq
    by_cases hi1 : i < s.size
    · have hz1 : (i : Int) < (s.size : Int) := by omega
      by_cases hi2 : i < 100
      · have hz2 : (i : Int) < 100 := by omega
        obtain ⟨c0, hc0⟩ := bt_byte hi1
        obtain ⟨hc1, _⟩ := hc0
        by_cases h10 : bt s i = 10
        · have hb10 : (bt s i == 10) = true := by simpa using h10
          clear hc1
          go_wp2_with fail
          go_roundw
          case rel => exact ⟨i + 1, m, N, by go_num, by omega, by omega, HNL.out, HEQ.out, HN.out, HB.out⟩
          case measure => simp [intOf]; omega
        · have hb10 : (bt s i == 10) = false := by simpa using h10
          have HC10 := Lib.hid (show c0 ≠ 10 by rintro rfl; exact h10 hc1)
          have HC1 := Lib.hid hc1
          have HAP := Lib.hid (nt_app HN.out hBs (by omega) c0)
          clear h10 hc1
          go_wp2_with (first
            | (at_builtin; refine wpList_appR rfl (.tmp 38) (.tmp 42) rfl rfl rfl (by have h := HAP.out; rw [← HC1.out] at h; exact h _) ?_; rintro v7 w7 ⟨ho7, hb7⟩; obtain ⟨N7, hN7⟩ : ∃ x, N ++ [c0] = x := ⟨_, rfl⟩; rw [hN7] at ho7; have HN7 := Lib.hid hN7; clear hN7; obtain ⟨p7, k7, rfl⟩ := ho7.form; have HO7 := Lib.hid ho7; have HB7 := Lib.hid (HB.out.trans hb7); clear ho7 hb7)
            | fail)
          go_roundw
          case rel => exact ⟨i + 1, m ++ [c0], N7, by go_num, by omega, by rw [List.length_append]; simp only [List.length_singleton]; omega, noNl_snoc HNL.out HC10.out, by rw [← HN7.out, HEQ.out, List.append_assoc], .inr HO7.out, HB7.out⟩
          case measure => simp [intOf]; omega
      · have hz2 : ¬ (i : Int) < 100 := by omega
        clear w1
        have HAP := Lib.hid (nt_app HN.out hBs (by omega) 10)
        go_upto_region 11 with (first
          | (at_builtin; refine wpList_appR rfl (.tmp 44) (.tmp 45) rfl rfl rfl (by exact HAP.out _) ?_; rintro v8 w8 ⟨ho8, hb8⟩; obtain ⟨N8, hN8⟩ : ∃ x, N ++ [10] = x := ⟨_, rfl⟩; rw [hN8] at ho8; have HN8 := Lib.hid hN8; have hlen8 : N8.length ≤ 110 := (by rw [← hN8, List.length_append, List.length_singleton]; omega); clear hN8; obtain ⟨p9, k9, rfl⟩ := ho8.form; have HO8 := Lib.hid ho8; have HB8 := Lib.hid (HB.out.trans hb8); have hb8s : B ≤ w8.heap.size := Nat.le_trans hBs (by have := hb8.size; omega); clear ho8 hb8 HAP)
          | fail)
        have HAQ := Lib.hid (o8_app (O8.fresh hb8s) ((HO8.out.alloc (.cells #[] 5)).r8 (by omega)) (by simp; omega) (by simp only [List.length_nil]; omega))
        rw [List.nil_append] at HAQ
        have HBA := Lib.hid (show Below B w8 (w8.alloc (.cells #[] 5)) from (Below.refl _ _).alloc hb8s _)
        have HR9 := Lib.hid (fun (w9 : World) (h9 : Below B w3 w9) => HR.out.keep (HB3.out.trans (h9.mono hwB)))
        go_upto_region 12 with (first
          | (at_builtin; refine wpList_appR rfl (.tmp 47) (.tmp 48) rfl rfl rfl (by exact HAQ.out _) ?_; rintro v8 w9 ⟨ho9, hb8⟩; have hb9 := HB8.out.trans (HBA.out.trans hb8); have hb9s : B ≤ w9.heap.size := (by have h1 := hb9.size; have h2 := HB3.out.size; omega); have HAR := Lib.hid (o8_app ho9 (HR9.out _ hb9) hb9s (by omega)); have HB9 := Lib.hid hb9; obtain ⟨p11, k11, rfl⟩ := ho9.form; clear ho9 hb8 hb9 HAQ)
          | (at_builtin; refine wpList_appR rfl (.tmp 49) (.tmp 50) rfl rfl rfl (by exact HAR.out _) ?_; rintro v8 w10 ⟨ho8, hb8⟩; obtain ⟨TX, hTX⟩ : ∃ x, N8 ++ l = x := ⟨_, rfl⟩; rw [hTX] at ho8; have HTX := Lib.hid hTX; have hlt1 : N8.length + l.length ≤ TX.length := (by rw [← hTX, List.length_append]; exact Nat.le_refl _); have hlt2 : TX.length ≤ N8.length + l.length := (by rw [← hTX, List.length_append]; exact Nat.le_refl _); clear hTX; obtain ⟨p12, k12, rfl⟩ := ho8.form; have HO10 := Lib.hid ho8; have HB10 := Lib.hid (HB9.out.trans hb8); clear ho8 hb8 HAR)
          | fail)
        have hb10s : B ≤ w10.heap.size := by have h1 := HB10.out.size; omega
        have HL2 := Lib.hid (lex_any _ TX w10 (HO10.out.r8 (by omega)) (tabS_keep HTAB.out (HB3.out.trans (HB10.out.mono hwB))))
        by_cases hbig : 20000 < TX.length
        · have hv : lexD TX = .error (0, 24) := by unfold lexD; rw [if_pos hbig]
          have hz : (TX.length : Int) > 20000 := by omega
          rw [hv] at HL2
          clear hv
          go_wp2_with fail
          refine HL2.out.mono ?_
          rintro e w11 ⟨rfl, hb11⟩
          have HB11 := Lib.hid (HB10.out.trans (hb11.mono hb10s))
          clear hb11
          go_wp2_with fail
          go_ret
          exact ⟨rfl, HB3.out.trans (HB11.out.mono hwB)⟩
        · have hz : ¬ (TX.length : Int) > 20000 := by omega
          have hTXe : TX = noteB ++ m ++ [10] ++ l := by rw [← HTX.out, ← HN8.out, HEQ.out]
          have hq := quiet_at (src := l) HNL.out (by rw [← hTXe]; omega)
          rw [← hTXe] at hq
          rw [hq] at HL2
          clear hq hTXe
          cases hlx : lexD l with
          | error pq =>
            obtain ⟨pl, pe⟩ := pq
            rw [hlx] at HL2 HLP
            obtain ⟨h1, _⟩ := HLP.out
            simp only [Ending.returned.injEq, Value.tuple.injEq, Array.mk.injEq, List.cons.injEq, Value.int.injEq, true_and, and_true] at h1
            obtain ⟨rfl, rfl, rfl⟩ := h1
            rcases lexD_err hlx with ⟨h, _⟩ | ⟨_, e1, _, e2⟩
            · omega
            simp only at e1 e2
            have z3 : la + 3 > 3 := by omega
            clear HLP hlx e1
            rcases e2 with rfl | rfl
            all_goals
              go_wp2_with fail
              refine HL2.out.mono ?_
              rintro e w11 ⟨rfl, hb11⟩
              have HB11 := Lib.hid (HB10.out.trans (hb11.mono hb10s))
              clear hb11
              go_wp2_with fail
              go_ret
              exact ⟨rfl, HB3.out.trans (HB11.out.mono hwB)⟩
          | ok ts =>
            rw [hlx] at HL2 HLP
            obtain ⟨v, h1, hown, _⟩ := HLP.out
            simp only [Ending.returned.injEq, Value.tuple.injEq, Array.mk.injEq, List.cons.injEq, Value.int.injEq, true_and, and_true] at h1
            obtain ⟨rfl, rfl, rfl⟩ := h1
            have hle := own_le hown
            have HRt5 := Lib.hid (Rt.of hown)
            obtain ⟨p5, k5, rfl⟩ := owns_form hown
            clear HLP hlx hown
            go_wp2_with fail
            refine HL2.out.mono ?_
            rintro e w11 ⟨v11, rfl, hown, hb11⟩
            have hB11 := HB10.out.trans (hb11.mono hb10s)
            have HB11 := Lib.hid hB11
            have HAL := Lib.hid (alike_any _ _ ts (ts.map (shT 3)) w11 (HRt5.out.keep (hB11.mono hB3q)) (Rt.of hown) (by rw [List.map_map]; rfl) (by unfold maxLen at hle; omega))
            obtain ⟨p13, k13, e13⟩ := owns_form hown
            rw [List.length_map] at e13
            clear hown hb11 hB11
            subst e13
            go_wp2_with fail
            refine HAL.out.mono ?_
            rintro e w12 ⟨rfl, hb12⟩
            have HB12 := Lib.hid (HB11.out.trans (hb12.mono (by have h1 := HB11.out.size; omega)))
            clear hb12
            go_wp2_with fail
            go_ret
            exact ⟨rfl, HB3.out.trans (HB12.out.mono hwB)⟩
    · have hz1 : ¬ (i : Int) < (s.size : Int) := by omega
      clear w1
      have HAP := Lib.hid (nt_app HN.out hBs (by omega) 10)
      go_upto_region 11 with (first
        | (at_builtin; refine wpList_appR rfl (.tmp 44) (.tmp 45) rfl rfl rfl (by exact HAP.out _) ?_; rintro v8 w8 ⟨ho8, hb8⟩; obtain ⟨N8, hN8⟩ : ∃ x, N ++ [10] = x := ⟨_, rfl⟩; rw [hN8] at ho8; have HN8 := Lib.hid hN8; have hlen8 : N8.length ≤ 110 := (by rw [← hN8, List.length_append, List.length_singleton]; omega); clear hN8; obtain ⟨p9, k9, rfl⟩ := ho8.form; have HO8 := Lib.hid ho8; have HB8 := Lib.hid (HB.out.trans hb8); have hb8s : B ≤ w8.heap.size := Nat.le_trans hBs (by have := hb8.size; omega); clear ho8 hb8 HAP)
        | fail)
      have HAQ := Lib.hid (o8_app (O8.fresh hb8s) ((HO8.out.alloc (.cells #[] 5)).r8 (by omega)) (by simp; omega) (by simp only [List.length_nil]; omega))
      rw [List.nil_append] at HAQ
      have HBA := Lib.hid (show Below B w8 (w8.alloc (.cells #[] 5)) from (Below.refl _ _).alloc hb8s _)
      have HR9 := Lib.hid (fun (w9 : World) (h9 : Below B w3 w9) => HR.out.keep (HB3.out.trans (h9.mono hwB)))
      go_upto_region 12 with (first
        | (at_builtin; refine wpList_appR rfl (.tmp 47) (.tmp 48) rfl rfl rfl (by exact HAQ.out _) ?_; rintro v8 w9 ⟨ho9, hb8⟩; have hb9 := HB8.out.trans (HBA.out.trans hb8); have hb9s : B ≤ w9.heap.size := (by have h1 := hb9.size; have h2 := HB3.out.size; omega); have HAR := Lib.hid (o8_app ho9 (HR9.out _ hb9) hb9s (by omega)); have HB9 := Lib.hid hb9; obtain ⟨p11, k11, rfl⟩ := ho9.form; clear ho9 hb8 hb9 HAQ)
        | (at_builtin; refine wpList_appR rfl (.tmp 49) (.tmp 50) rfl rfl rfl (by exact HAR.out _) ?_; rintro v8 w10 ⟨ho8, hb8⟩; obtain ⟨TX, hTX⟩ : ∃ x, N8 ++ l = x := ⟨_, rfl⟩; rw [hTX] at ho8; have HTX := Lib.hid hTX; have hlt1 : N8.length + l.length ≤ TX.length := (by rw [← hTX, List.length_append]; exact Nat.le_refl _); have hlt2 : TX.length ≤ N8.length + l.length := (by rw [← hTX, List.length_append]; exact Nat.le_refl _); clear hTX; obtain ⟨p12, k12, rfl⟩ := ho8.form; have HO10 := Lib.hid ho8; have HB10 := Lib.hid (HB9.out.trans hb8); clear ho8 hb8 HAR)
        | fail)
      have hb10s : B ≤ w10.heap.size := by have h1 := HB10.out.size; omega
      have HL2 := Lib.hid (lex_any _ TX w10 (HO10.out.r8 (by omega)) (tabS_keep HTAB.out (HB3.out.trans (HB10.out.mono hwB))))
      by_cases hbig : 20000 < TX.length
      · have hv : lexD TX = .error (0, 24) := by unfold lexD; rw [if_pos hbig]
        have hz : (TX.length : Int) > 20000 := by omega
        rw [hv] at HL2
        clear hv
        go_wp2_with fail
        refine HL2.out.mono ?_
        rintro e w11 ⟨rfl, hb11⟩
        have HB11 := Lib.hid (HB10.out.trans (hb11.mono hb10s))
        clear hb11
        go_wp2_with fail
        go_ret
        exact ⟨rfl, HB3.out.trans (HB11.out.mono hwB)⟩
      · have hz : ¬ (TX.length : Int) > 20000 := by omega
        have hTXe : TX = noteB ++ m ++ [10] ++ l := by rw [← HTX.out, ← HN8.out, HEQ.out]
        have hq := quiet_at (src := l) HNL.out (by rw [← hTXe]; omega)
        rw [← hTXe] at hq
        rw [hq] at HL2
        clear hq hTXe
        cases hlx : lexD l with
        | error pq =>
          obtain ⟨pl, pe⟩ := pq
          rw [hlx] at HL2 HLP
          obtain ⟨h1, _⟩ := HLP.out
          simp only [Ending.returned.injEq, Value.tuple.injEq, Array.mk.injEq, List.cons.injEq, Value.int.injEq, true_and, and_true] at h1
          obtain ⟨rfl, rfl, rfl⟩ := h1
          rcases lexD_err hlx with ⟨h, _⟩ | ⟨_, e1, _, e2⟩
          · omega
          simp only at e1 e2
          have z3 : la + 3 > 3 := by omega
          clear HLP hlx e1
          rcases e2 with rfl | rfl
          all_goals
            go_wp2_with fail
            refine HL2.out.mono ?_
            rintro e w11 ⟨rfl, hb11⟩
            have HB11 := Lib.hid (HB10.out.trans (hb11.mono hb10s))
            clear hb11
            go_wp2_with fail
            go_ret
            exact ⟨rfl, HB3.out.trans (HB11.out.mono hwB)⟩
        | ok ts =>
          rw [hlx] at HL2 HLP
          obtain ⟨v, h1, hown, _⟩ := HLP.out
          simp only [Ending.returned.injEq, Value.tuple.injEq, Array.mk.injEq, List.cons.injEq, Value.int.injEq, true_and, and_true] at h1
          obtain ⟨rfl, rfl, rfl⟩ := h1
          have hle := own_le hown
          have HRt5 := Lib.hid (Rt.of hown)
          obtain ⟨p5, k5, rfl⟩ := owns_form hown
          clear HLP hlx hown
          go_wp2_with fail
          refine HL2.out.mono ?_
          rintro e w11 ⟨v11, rfl, hown, hb11⟩
          have hB11 := HB10.out.trans (hb11.mono hb10s)
          have HB11 := Lib.hid hB11
          have HAL := Lib.hid (alike_any _ _ ts (ts.map (shT 3)) w11 (HRt5.out.keep (hB11.mono hB3q)) (Rt.of hown) (by rw [List.map_map]; rfl) (by unfold maxLen at hle; omega))
          obtain ⟨p13, k13, e13⟩ := owns_form hown
          rw [List.length_map] at e13
          clear hown hb11 hB11
          subst e13
          go_wp2_with fail
          refine HAL.out.mono ?_
          rintro e w12 ⟨rfl, hb12⟩
          have HB12 := Lib.hid (HB11.out.trans (hb12.mono (by have h1 := HB11.out.size; omega)))
          clear hb12
          go_wp2_with fail
          go_ret
          exact ⟨rfl, HB3.out.trans (HB12.out.mono hwB)⟩
end Go.Proofs.YtcjomeghcihecaaDoor
