/- Layer 4: the law LexJoins. -/
import Derived.Test.YtcjomeghcihecaaDoorPLxB3
namespace Go.Proofs.YtcjomeghcihecaaDoor
open Go Go.ChangeShapes Go.WideShapes Go.ChangeAt Go.RowKit Go.PlainAid Go.Maps
set_option linter.unusedVariables false
set_option linter.unusedSimpArgs false
theorem w64 (n : Nat) (h : n ≤ 9223372036854775807) : wrap64 (n : Int) = (n : Int) := by unfold wrap64; omega
theorem outs_at {a P : List Tk} {k : Nat} {ln : Int} {z : Tk} (h : a = P ++ outsD k ln ++ [z]) {j : Nat} (h1 : P.length ≤ j) (h2 : j < P.length + k) : a[j]? = some ⟨3, ln, []⟩ := by
  rw [h, List.getElem?_append_left (by simp [outsD]; omega), List.getElem?_append_right h1]
  unfold outsD
  rw [List.getElem?_replicate, if_pos (by omega)]
theorem last_at {a P q : List Tk} {k : Nat} {ln : Int} {z t : Tk} (h : a = P ++ outsD k ln ++ [z]) (hP : P = q ++ [t]) : a[q.length]? = some t := by
  rw [h, hP, List.append_assoc, List.append_assoc, List.getElem?_append_right (Nat.le_refl _), Nat.sub_self]
  rfl
theorem err3 {l : Bs} {q : Int × Int} (h : lexD l = .error q) : q.2 = 20 ∨ q.2 = 21 ∨ q.2 = 24 := by
  rcases lexD_err h with ⟨_, e⟩ | ⟨_, _, _, e⟩
  · rw [e]; simp
  · rcases e with e | e <;> simp [e]
theorem joins_p {a c P os k r : List Tk} (hc : c = P ++ os ++ k) (ha : a = P ++ r) : ∀ i, i < P.length → ∃ t, c[i]? = some t ∧ a[i]? = some t := fun i hi => by
  refine ⟨P[i], ?_, ?_⟩
  · rw [hc, List.append_assoc, List.getElem?_append_left hi, List.getElem?_eq_getElem hi]
  · rw [ha, List.getElem?_append_left hi, List.getElem?_eq_getElem hi]
theorem joins_o {c P os k : List Tk} (hc : c = P ++ os ++ k) (ho : ∀ t ∈ os, t.kind = 3) : ∀ i, i < os.length → ∃ t, c[P.length + i]? = some t ∧ t.kind = 3 := fun i hi => by
  refine ⟨os[i], ?_, ho _ (List.getElem_mem hi)⟩
  rw [hc, List.append_assoc, List.getElem?_append_right (by omega), Nat.add_sub_cancel_left, List.getElem?_append_left hi, List.getElem?_eq_getElem hi]
theorem joins_b {c P os b : List Tk} {n : Int} (hc : c = P ++ os ++ b.map (shT n)) : ∀ i, i < b.length → ∃ t, b[i]? = some t ∧ c[P.length + os.length + i]? = some (shT n t) := fun i hi => by
  refine ⟨b[i], List.getElem?_eq_getElem hi, ?_⟩
  rw [hc, List.getElem?_append_right (by simp), List.length_append, Nat.add_sub_cancel_left, List.getElem?_map, List.getElem?_eq_getElem hi]
  rfl
theorem joins_last {l : Bs} {a P : List Tk} {k n : Nat} (hl : lexD l = .ok a) (ha : a = P ++ outsD k ↑(n + 1) ++ [⟨0, ↑(n + 1), []⟩]) : a[P.length + k]? = some ⟨0, ↑(n + 1), []⟩ ∧ n ≤ l.length := by
  refine ⟨by rw [ha, List.getElem?_append_right (by simp [outsD])]; simp [outsD], ?_⟩
  have h := (lexD_blocks hl).high ⟨0, ↑(n + 1), []⟩ (by rw [ha]; simp)
  rw [splitB_len] at h
  have h2 : l.count 10 ≤ l.length := List.count_le_length
  simp only at h
  omega
theorem joins_lines {l : Bs} {b : List Tk} (hl : lexD l = .ok b) : ∀ (i : Nat) (t : Tk), b[i]? = some t → 1 ≤ t.line ∧ t.line ≤ (l.length : Int) + 1 := fun i t ht => by
  have hb := lexD_blocks hl
  obtain ⟨hi, e⟩ := List.getElem?_eq_some_iff.1 ht
  have h2 : l.count 10 ≤ l.length := List.count_le_length
  have hh := hb.high t (by rw [← e]; exact List.getElem_mem hi)
  rw [splitB_len] at hh
  have hlow : ∀ j, j < b.length → 1 ≤ (b.getD j tkZ).line := by
    intro j
    induction j with
    | zero => intro hj; simpa using hb.low 0 hj
    | succ j ih => intro hj; have h1 := ih (by omega); have h3 := hb.low (j + 1) hj; rw [if_neg (by omega), Nat.add_sub_cancel] at h3; omega
  have h4 := hlow i hi
  rw [List.getD_eq_getElem?_getD, ht] at h4
  exact ⟨h4, by omega⟩
theorem alloc3 (w : World) (a b c : Value) (T : TypeId) : ∀ W, w.alloc (.cells #[a, b, c] T) = W → W.cell? ⟨w.heap.size, 0, none⟩ = some a ∧ W.cell? ⟨w.heap.size, 1, none⟩ = some b ∧ W.cell? ⟨w.heap.size, 2, none⟩ = some c := by
  rintro W rfl
  have hn := heap_alloc_new w (.cells #[a, b, c] T)
  exact ⟨by rw [World.cell?, hn]; rfl, by rw [World.cell?, hn]; rfl, by rw [World.cell?, hn]; rfl⟩
theorem alloc_cell' {w W : World} {o : Obj} (h : w.alloc o = W) {p : Addr} {v : Value} (hc : w.cell? p = some v) : W.cell? p = some v := by rw [← h]; exact alloc_cell hc _
set_option maxRecDepth 100000 in
set_option maxHeartbeats 8000000 in
theorem law_joins (v1 v2 : Value) (l m : Bs) (w : World) (hr1 : R8 w v1 l) (hr2 : R8 w v2 m) (hl : l.length ≤ 140737488351232) (hm : m.length ≤ 140737488351232) (htab : Lib.TabIs Tryd.prog w "strings.asciiSpace" .u8 Lib.asciiSpaceTab) :
    Calls Tryd.prog 6 #[v1, v2] w fun e w' => e = .returned (.bool true) ∧ Below w.heap.size w w' := by
  have HR1 := Lib.hid hr1
  have HR2 := Lib.hid hr2
  have HTAB := Lib.hid htab
  obtain ⟨p1, c1, rfl⟩ := r8_form hr1
  obtain ⟨p2, c2, rfl⟩ := r8_form hr2
  clear hr1 hr2 htab
  go_enter Tryd.func6, Tryd.ntmps6
  go_upto_region 3 with (first
    | (go_at_call 11; with_reducible refine (known04 w HTAB.out).mono ?_; rintro e w1 ⟨rfl, hb1⟩; have HB1 := Lib.hid hb1; clear hb1)
    | fail)
  have hwB : w.heap.size ≤ w1.heap.size := HB1.out.size
  obtain ⟨B, hBq⟩ : ∃ b, w1.heap.size = b := ⟨_, rfl⟩
  rw [hBq] at hwB
  have hw1s : B ≤ w1.heap.size := by omega
  clear hBq
  have HBA := Lib.hid (show Below B w1 (w1.alloc (.cells #[] 5)) from (Below.refl _ _).alloc hw1s _)
  have HAQ := Lib.hid (o8_app (O8.fresh hw1s) (HR1.out.keep (HB1.out.trans (HBA.out.mono hwB))) (by simp; omega) (by simp only [List.length_nil]; omega))
  rw [List.nil_append] at HAQ
  go_upto_region 4 with (first
    | (at_builtin; refine wpList_appR rfl (.tmp 24) (.tmp 25) rfl rfl rfl (by exact HAQ.out _) ?_; rintro v8 w2 ⟨ho2, hb2⟩; have HB2 := Lib.hid (HBA.out.trans hb2); have hw2s : B ≤ w2.heap.size := (by have h1 := HB2.out.size; omega); have HAR := Lib.hid (o8_snoc ho2 hw2s (by omega) 10); obtain ⟨p8, k8, rfl⟩ := ho2.form; clear ho2 hb2 HAQ HBA)
    | (at_builtin; refine wpList_appR rfl (.tmp 26) (.tmp 27) rfl rfl rfl (by exact HAR.out _) ?_; rintro v8 w3 ⟨ho3, hb3⟩; obtain ⟨FX, hFX⟩ : ∃ x, l ++ [10] = x := ⟨_, rfl⟩; rw [hFX] at ho3; have HFX := Lib.hid hFX; have hF1 : FX.length ≤ 140737488351300 := (by rw [← hFX, List.length_append, List.length_singleton]; omega); clear hFX; obtain ⟨p5, k5, rfl⟩ := ho3.form; have HO3 := Lib.hid ho3; have HB3 := Lib.hid (HB2.out.trans hb3); clear ho3 hb3 HAR)
    | fail)
  have hw3s : B ≤ w3.heap.size := by have h1 := HB3.out.size; omega
  have HWK := Lib.hid (fun (wx : World) (h : Below B w1 wx) => HB1.out.trans (h.mono hwB))
  have HL1 := Lib.hid (lex_any _ FX w3 (HO3.out.r8 (by omega)) (tabS_keep HTAB.out (HWK.out _ HB3.out)))
  go_upto_region 6 with (first
    | (go_at_call 9; with_reducible refine HL1.out.mono ?_; intro e w4 hlp; obtain ⟨v6, la, ea, rfl⟩ := lexP_form hlp; have HB4 := Lib.hid (HB3.out.trans (hlp.below.mono hw3s)); have HB34 := Lib.hid hlp.below; have HP1 := Lib.hid hlp; have HL2 := Lib.hid (lex_any _ m w4 (HR2.out.keep (HWK.out _ HB4.out)) (tabS_keep HTAB.out (HWK.out _ HB4.out))); clear hlp HL1)
    | (go_at_call 9; with_reducible refine HL2.out.mono ?_; intro e w5 hlp; obtain ⟨v9, lb, eb, rfl⟩ := lexP_form hlp; have HB5 := Lib.hid (HB4.out.trans (hlp.below.mono (by have h1 := HB4.out.size; omega))); have HB45 := Lib.hid hlp.below; have HB35 := Lib.hid (HB34.out.trans (HB45.out.mono HB34.out.size)); have HP2 := Lib.hid hlp; clear hlp HL2)
    | fail)
  cases hl1 : lexD FX with
  | error q =>
    rw [hl1] at HP1
    obtain ⟨h1, _⟩ := HP1.out
    simp only [Ending.returned.injEq, Value.tuple.injEq, Array.mk.injEq, List.cons.injEq, Value.int.injEq, true_and, and_true] at h1
    obtain ⟨rfl, rfl, rfl⟩ := h1
    have hx : q.2 = 20 ∨ q.2 = 21 ∨ q.2 = 24 := err3 hl1
    obtain ⟨qe, hqe⟩ : ∃ x, q.2 = x := ⟨_, rfl⟩
    rw [hqe] at hx ⊢
    clear HP1 hl1 hqe
    rcases hx with rfl | rfl | rfl
    all_goals
      go_wp2_with fail
      go_ret
      exact ⟨rfl, HWK.out _ HB5.out⟩
  | ok a =>
    rw [hl1] at HP1
    obtain ⟨va, h1, howna, _⟩ := HP1.out
    simp only [Ending.returned.injEq, Value.tuple.injEq, Array.mk.injEq, List.cons.injEq, Value.int.injEq, true_and, and_true] at h1
    obtain ⟨rfl, rfl, rfl⟩ := h1
    have hale := own_le howna
    have HRa := Lib.hid (Rt.of howna)
    clear HP1 howna
    obtain ⟨pa, ca, rfl, hca, hcx⟩ := rt_form HRa.out
    have ha1 : 0 < a.length := List.length_pos_iff.2 (lex_ne hl1)
    obtain ⟨ba, oa, rfl, hcy⟩ := hcx ha1
    have HCA := Lib.hid (fun i hi => (⟨below_cell HB45.out (hcy i hi).1, below_cell HB45.out (hcy i hi).2.1, below_cell HB45.out (hcy i hi).2.2⟩ : w5.cell? ⟨ba, oa + i * 3, none⟩ = some (.int .i64 (a.getD i tkZ).kind) ∧ w5.cell? ⟨ba, oa + i * 3 + 1, none⟩ = some (.int .i64 (a.getD i tkZ).line) ∧ w5.cell? ⟨ba, oa + i * 3 + 2, none⟩ = some (.string (bsOf (a.getD i tkZ).text))))
    clear hcx hcy
    cases hl2 : lexD m with
    | error q =>
      rw [hl2] at HP2
      obtain ⟨h1, _⟩ := HP2.out
      simp only [Ending.returned.injEq, Value.tuple.injEq, Array.mk.injEq, List.cons.injEq, Value.int.injEq, true_and, and_true] at h1
      obtain ⟨rfl, rfl, rfl⟩ := h1
      have hx : q.2 = 20 ∨ q.2 = 21 ∨ q.2 = 24 := err3 hl2
      obtain ⟨qe, hqe⟩ : ∃ x, q.2 = x := ⟨_, rfl⟩
      rw [hqe] at hx ⊢
      clear HP2 hl1 hl2 hqe
      rcases hx with rfl | rfl | rfl
      all_goals
        go_wp2_with fail
        go_ret
        exact ⟨rfl, HWK.out _ HB5.out⟩
    | ok b =>
      rw [hl2] at HP2
      obtain ⟨vb, h1, hownb, _⟩ := HP2.out
      simp only [Ending.returned.injEq, Value.tuple.injEq, Array.mk.injEq, List.cons.injEq, Value.int.injEq, true_and, and_true] at h1
      obtain ⟨rfl, rfl, rfl⟩ := h1
      have hble := own_le hownb
      have HRb := Lib.hid (Rt.of hownb)
      clear HP2 hownb
      obtain ⟨pb, cb, rfl, _, hcbx⟩ := rt_form HRb.out
      obtain ⟨t0, hb0⟩ : ∃ t, b[0]? = some t := by
        cases b with
        | nil => exact absurd rfl (lex_ne hl2)
        | cons t r => exact ⟨t, rfl⟩
      have hb1 : 0 < b.length := (List.getElem?_eq_some_iff.1 hb0).1
      obtain ⟨bb, ob, rfl, hcb⟩ := hcbx hb1
      clear hcbx
      have q0 := (tok_kind hcb hb0).1
      rw [Nat.zero_mul, Nat.add_zero] at q0
      have HCB := Lib.hid hcb
      have HL1 := Lib.hid hl1
      have HL2 := Lib.hid hl2
      have HBZ := Lib.hid hb0
      clear hcb hl1 hl2 hb0
      have hsum : IntKind.i64.wrap ((FX.length : Int) + (m.length : Int)) = (FX.length : Int) + (m.length : Int) := i64_in (by omega) (by omega)
      by_cases hbig : 20000 < FX.length + m.length
      · have hz : (FX.length : Int) + (m.length : Int) > 20000 := by omega
        go_wp2_with fail
        go_ret
        exact ⟨rfl, HWK.out _ HB5.out⟩
      · have hz : ¬ ((FX.length : Int) + (m.length : Int) > 20000) := by omega
        have hbz : (b.length : Int) > 0 := by omega
        by_cases hk2 : t0.kind = 2
        · rw [hk2] at q0
          go_wp2_with fail
          go_ret
          exact ⟨rfl, HWK.out _ HB5.out⟩
        · have hkb : (t0.kind == 2) = false := by simpa using hk2
          have hJ := lexD_joins (by rw [HFX.out]; exact HL1.out) HL2.out (fun t r e => by
            have h := HBZ.out
            rw [e] at h
            simp only [List.getElem?_cons_zero, Option.some.injEq] at h
            rw [h]
            exact hk2)
          rw [HFX.out] at hJ
          obtain ⟨P, k, n, ha, hp3, hj⟩ := hJ
          have HJ := Lib.hid hj
          have HA := Lib.hid ha
          have hA1 : a.length ≤ P.length + k + 1 := by rw [ha]; simp [outsD]; omega
          have hA2 : P.length + k + 1 ≤ a.length := by rw [ha]; simp [outsD]; omega
          clear ha hj
          go_wp2_with fail
          go_loopw [12] (fun s12 wr => ∃ o : Nat, s12 = .int .i64 o ∧ o ≤ k ∧ w5 = wr) (fun s12 wr => k - (intOf s12).toNat)
          case atStart => exact ⟨0, by go_num, Nat.zero_le _, by first | rfl | trivial⟩
          case round =>
            obtain ⟨o, rfl, ho, rfl⟩ := hrel
            have w1x : IntKind.i64.wrap ((o : Int) + 1) = (o : Int) + 1 := i64_in (by unfold maxLen at hale; omega) (by unfold maxLen at hale; omega)
            have w2x : IntKind.i64.wrap ((a.length : Int) - 2) = (a.length : Int) - 2 := i64_in (by omega) (by unfold maxLen at hale; omega)
            by_cases hlt : o < k
            · obtain ⟨j, hj⟩ : ∃ j : Nat, j = P.length + k - 1 - o := ⟨_, rfl⟩
              have w3x : IntKind.i64.wrap ((a.length : Int) - 2 - (o : Int)) = (j : Int) := by
                have e : (a.length : Int) - 2 - (o : Int) = (j : Int) := by omega
                rw [e]; exact i64_in (by omega) (by unfold maxLen at hale; omega)
              have hz1 : (o : Int) + 1 < (a.length : Int) := by omega
              have hjl : (j : Int) < (a.length : Int) := by omega
              have qk := (tok_kind HCA.out (outs_at HA.out (show P.length ≤ j by omega) (show j < P.length + k by omega))).1
              simp only at qk
              clear hj
              go_wp2_with fail
              go_roundw
              case rel => exact ⟨o + 1, by go_num, by omega, by first | trivial | rfl⟩
              case measure => simp [intOf]; omega
            · obtain rfl : o = k := by omega
              obtain ⟨jl, hjl⟩ : ∃ j : Nat, j = P.length + o := ⟨_, rfl⟩
              have w4x : IntKind.i64.wrap ((a.length : Int) - 1) = (jl : Int) := by
                have e : (a.length : Int) - 1 = (jl : Int) := by omega
                rw [e]; exact i64_in (by omega) (by unfold maxLen at hale; omega)
              have w5x : IntKind.i64.wrap ((jl : Int) - (o : Int)) = (P.length : Int) := by
                have e : (jl : Int) - (o : Int) = (P.length : Int) := by omega
                rw [e]; exact i64_in (by omega) (by unfold maxLen at hale; omega)
              have HSL := Lib.hid (w64 P.length (by unfold maxLen at hale; omega))
              rcases hp3 with hP | ⟨q, t, hP, htk⟩
              · have hP0 : P.length = 0 := by rw [hP]; rfl
                have hz1 : ¬ ((o : Int) + 1 < (a.length : Int)) := by omega
                have hPz : ¬ ((P.length : Int) > 0) := by omega
                have HOS := Lib.hid (HJ.out (.inl hP) (by omega))
                have HP0 := Lib.hid hP0
                clear hP0 hP
                go_upto_region 11 with fail
                clear w2x w1x hz1 hPz
                have hmx : (P.length : Int) ≤ 9223372036854775806 := by have := HP0.out; omega
                have hmc : (P.length : Int) ≤ (ca : Int) := by omega
                have hmz : (0 : Int) ≤ (P.length : Int) := by omega
                go_cut [13] from 86 to 93 (fun s wx => ∃ np : Nat, np = P.length ∧ s = .slice (some ⟨ba, oa, none⟩) np ca ∧ w5 = wx)
                case first =>
                  go_wp2_with fail
                  go_meet
                  exact ⟨P.length, rfl, rfl, rfl⟩
                case rest =>
                  obtain ⟨np, hnp, rfl, rfl⟩ := hcut
                  have hmn : (np : Int) ≤ 9223372036854775806 := by omega
                  have HNP := Lib.hid hnp
                  clear hnp
                  go_upto_region 12 with fail
                  go_cut [105] from 93 to 106 (fun s wx => s = .bool false ∧ w5 = wx)
                  case first =>
                    obtain rfl : np = 0 := by rw [HNP.out, HP0.out]
                    go_wp2_with fail
                    go_meet
                    exact ⟨rfl, rfl⟩
                  case rest =>
                    obtain ⟨rfl, rfl⟩ := hcut
                    clear w5x
                    have hnp := HNP.out
                    obtain ⟨os, hlx, hol, hok⟩ := HOS.out
                    obtain ⟨CX, hCX⟩ : ∃ x, P ++ os ++ List.map (shT ↑n) b = x := ⟨_, rfl⟩
                    rw [hCX] at hlx
                    have HLX := Lib.hid hlx
                    obtain ⟨cl, hcl⟩ : ∃ x, CX.length = x := ⟨_, rfl⟩
                    have hcl1 : cl ≤ P.length + o + b.length := by rw [← hcl, ← hCX]; simp; omega
                    have hcl2 : P.length + o + b.length ≤ cl := by rw [← hcl, ← hCX]; simp; omega
                    have HCL := Lib.hid hcl
                    have HC1 := Lib.hid (joins_p (P := P) (os := os) (c := CX) (k := b.map (shT ↑n)) (a := a) (r := outsD o ↑(n + 1) ++ [⟨0, ↑(n + 1), []⟩]) hCX.symm (by rw [HA.out, List.append_assoc]))
                    have HC2 := Lib.hid (joins_o (P := P) (os := os) (c := CX) (k := b.map (shT ↑n)) hCX.symm hok)
                    have HC3 := Lib.hid (joins_b (P := P) (os := os) (c := CX) (b := b) (n := ↑n) hCX.symm)
                    have HOL := Lib.hid hol
                    obtain ⟨hbq1, hbq2⟩ := joins_last HL1.out HA.out
                    have HQL := Lib.hid hbq1
                    have hn1 : n ≤ 140737488351300 := by omega
                    have HBL := Lib.hid (joins_lines HL2.out)
                    clear hlx hcl hCX hol hok HOS hbq1
                    obtain ⟨C, hC⟩ : ∃ x, w5.heap.size = x := ⟨_, rfl⟩
                    have hCs : C ≤ w5.heap.size := by omega
                    have hC5 : w5.heap.size ≤ C := by omega
                    have hBC : B ≤ C := by have h1 := HB5.out.size; omega
                    have HBA := Lib.hid (show Below C w5 (w5.alloc (.cells #[] 5)) from (Below.refl _ _).alloc hCs _)
                    have HAS := Lib.hid (o8_app (O8.fresh hCs) (((HO3.out.r8 (by omega)).keep HB35.out).keep ((Below.refl _ _).alloc (Nat.le_refl _) _)) (by simp; omega) (by simp only [List.length_nil]; omega))
                    rw [List.nil_append] at HAS
                    have HWJ := Lib.hid (fun (wx : World) (h : Below C w5 wx) => HWK.out _ (HB5.out.trans (h.mono hBC)))
                    clear hC
                    clear hnp
                    go_wp2_with (first
                      | (at_builtin; refine wpList_appR rfl (.tmp 107) (.tmp 108) rfl rfl rfl (by exact HAS.out _) ?_; rintro v8 w6 ⟨ho6, hb6⟩; have HB6 := Lib.hid (HBA.out.trans hb6); have hw6s : C ≤ w6.heap.size := (by have h1 := HB6.out.size; omega); have HAT := Lib.hid (o8_app ho6 (HR2.out.keep (HWJ.out _ HB6.out)) hw6s (by omega)); obtain ⟨p6, k6, rfl⟩ := ho6.form; clear ho6 hb6 HAS HBA)
                      | (at_builtin; refine wpList_appR rfl (.tmp 109) (.tmp 110) rfl rfl rfl (by exact HAT.out _) ?_; rintro v8 w7 ⟨ho7, hb7⟩; obtain ⟨TX, hTX⟩ : ∃ x, FX ++ m = x := ⟨_, rfl⟩; rw [hTX] at ho7; have HTX := Lib.hid hTX; have hT1 : TX.length ≤ 140737488351300 := (by rw [← hTX, List.length_append]; omega); clear hTX; obtain ⟨p7, k7, rfl⟩ := ho7.form; have HO7 := Lib.hid ho7; have HB7 := Lib.hid (HB6.out.trans hb7); have hw7s : C ≤ w7.heap.size := (by have h1 := HB7.out.size; omega); clear ho7 hb7 HAT)
                      | fail)
                    have HL3 := Lib.hid (lex_any _ TX w7 (HO7.out.r8 (by omega)) (tabS_keep HTAB.out (HWJ.out _ HB7.out)))
                    have hlx := HLX.out
                    rw [HTX.out] at hlx
                    rw [hlx] at HL3
                    clear hlx
                    refine HL3.out.mono ?_
                    rintro e w8 ⟨v14, rfl, hown, hb8⟩
                    have HB8 := Lib.hid (HB7.out.trans (hb8.mono hw7s))
                    have hwz := HB8.out.size
                    obtain ⟨pc, cc, rfl, hcc, hcx⟩ := rt_form (Rt.of hown)
                    obtain ⟨bc, oc, rfl, hcy⟩ := hcx (by rw [HCL.out]; omega)
                    have HCC := Lib.hid hcy
                    have HB58 := Lib.hid (HB8.out.mono hC5)
                    clear HL3 hb8 hcx hcy
                    rw [HCL.out] at hcc ⊢
                    have q17 := below_cell HB58.out (tok_kind HCA.out (i := jl) (by rw [hjl]; exact HQL.out)).2.1
                    have hcle := own_le hown
                    rw [HCL.out] at hcle
                    unfold maxLen at hcle
                    clear hown
                    have hnp := HNP.out
                    obtain ⟨L1, hL1⟩ : ∃ x : Int, x = ((n + 1 : Nat) : Int) := ⟨_, rfl⟩
                    simp only at q17
                    rw [← hL1] at q17
                    have w8x : IntKind.i64.wrap (L1 - 1) = (n : Int) := by
                      have e : L1 - 1 = (n : Int) := by omega
                      rw [e]; exact i64_in (by omega) (by omega)
                    have w7x : IntKind.i64.wrap ((jl : Int) + (b.length : Int)) = (cl : Int) := by
                      have e : (jl : Int) + (b.length : Int) = (cl : Int) := by omega
                      rw [e]; exact i64_in (by omega) (by omega)
                    have hjla2 : (jl : Int) < (a.length : Int) := by omega
                    have hnx : (np : Int) ≤ 9223372036854775806 := by omega
                    have hcn1 : cl ≤ np + o + b.length := by omega
                    have hcn2 : np + o + b.length ≤ cl := by omega
                    have hale2 : (a.length : Int) ≤ 9223372036854775807 := by unfold maxLen at hale; omega
                    have hble2 : (b.length : Int) ≤ 9223372036854775807 := by unfold maxLen at hble; omega
                    have HJL := Lib.hid hjl
                    clear hL1 hjl hnp hmx hmc hmz
                    go_wp2_with fail
                    clear w4x w7x w8x
                    go_loopw [18] (fun s18 wr => ∃ i q : Nat, s18 = .int .i64 i ∧ i ≤ np ∧ wr = w8.drewN q) (fun s18 wr => np - (intOf s18).toNat)
                    case atStart => exact ⟨0, 0, by go_num, Nat.zero_le _, rfl⟩
                    case round =>
                      obtain ⟨i, qd, rfl, hi, rfl⟩ := hrel
                      have w1x : IntKind.i64.wrap ((i : Int) + 1) = (i : Int) + 1 := i64_in (by omega) (by omega)
                      by_cases hlt1 : i < np
                      · obtain ⟨t1, hc1, ha1⟩ := HC1.out i (by rw [← HNP.out]; exact hlt1)
                        obtain ⟨x0, x1, x2⟩ := tok_kind HCC.out hc1
                        have hay := tok_kind HCA.out ha1
                        have y0 := below_cell HB58.out hay.1
                        have y1 := below_cell HB58.out hay.2.1
                        have y2 := below_cell HB58.out hay.2.2
                        obtain ⟨kd, hkd⟩ : ∃ x, t1.kind = x := ⟨_, rfl⟩
                        obtain ⟨ld, hld⟩ : ∃ x, t1.line = x := ⟨_, rfl⟩
                        obtain ⟨S, hS⟩ : ∃ x, bsOf t1.text = x := ⟨_, rfl⟩
                        rw [hkd] at x0 y0
                        rw [hld] at x1 y1
                        rw [hS] at x2 y2
                        have hz1 : (i : Int) < (np : Int) := by omega
                        have hz2 : (i : Int) < (cl : Int) := by omega
                        clear hkd hld hS hc1 ha1 hay
                        go_wp2_with fail
                        go_quiet (fail)
                        go_wp2_with fail
                        go_roundw
                        case rel => exact ⟨i + 1, _, by go_num, by omega, rfl⟩
                        case measure => simp [intOf]; omega
                      · obtain rfl : np = i := by omega
                        have hz1 : ¬ (np : Int) < (np : Int) := by omega
                        clear w1x
                        go_wp2_with fail
                        go_loopw [19] (fun s19 wr => ∃ i q : Nat, s19 = .int .i64 i ∧ i ≤ o ∧ wr = w8.drewN q) (fun s19 wr => o - (intOf s19).toNat)
                        case atStart => exact ⟨0, _, by go_num, Nat.zero_le _, rfl⟩
                        case round =>
                          obtain ⟨i, qd2, rfl, hi, rfl⟩ := hrel
                          have w1x : IntKind.i64.wrap ((i : Int) + 1) = (i : Int) + 1 := i64_in (by omega) (by omega)
                          by_cases hlt2 : i < o
                          · obtain ⟨t1, hc1, hk1⟩ := HC2.out i (by rw [HOL.out]; exact hlt2)
                            rw [← HNP.out] at hc1
                            have x0 := (tok_kind HCC.out hc1).1
                            rw [hk1] at x0
                            obtain ⟨mi, hmi⟩ : ∃ x, np + i = x := ⟨_, rfl⟩
                            rw [hmi] at x0
                            have w2x : IntKind.i64.wrap ((np : Int) + (i : Int)) = (mi : Int) := by
                              have e : (np : Int) + (i : Int) = (mi : Int) := by omega
                              rw [e]; exact i64_in (by omega) (by omega)
                            have hz2 : (i : Int) < (o : Int) := by omega
                            have hz3 : (mi : Int) < (cl : Int) := by omega
                            have hz4 : (0 : Int) ≤ (mi : Int) := by omega
                            clear hmi hc1 hk1
                            go_wp2_with fail
                            go_roundw
                            case rel => exact ⟨i + 1, _, by go_num, by omega, rfl⟩
                            case measure => simp [intOf]; omega
                          · obtain rfl : i = o := by omega
                            clear w1x
                            go_wp2_with fail
                            go_loopw [20] (fun s20 wr => ∃ k : Nat, s20 = .int .i64 k ∧ k ≤ b.length ∧ Below w8.heap.size w8 wr) (fun s20 wr => b.length - (intOf s20).toNat)
                            case atStart => exact ⟨0, by go_num, Nat.zero_le _, below_drewN _ _⟩
                            case round =>
                              obtain ⟨k, rfl, hk, hbr⟩ := hrel
                              have HBR := Lib.hid hbr
                              have hrs := hbr.size
                              clear hbr
                              by_cases hlt3 : k < b.length
                              · have w1x : IntKind.i64.wrap ((k : Int) + 1) = (k : Int) + 1 := i64_in (by omega) (by omega)
                                obtain ⟨t1, hb1', hc1⟩ := HC3.out k hlt3
                                rw [HOL.out, ← HNP.out] at hc1
                                obtain ⟨hl1, hl2⟩ := HBL.out k t1 hb1'
                                have hay := tok_kind HCB.out hb1'
                                have y0 := below_cell HBR.out (below_cell HB58.out hay.1)
                                have y1 := below_cell HBR.out (below_cell HB58.out hay.2.1)
                                have y2 := below_cell HBR.out (below_cell HB58.out hay.2.2)
                                have hax := tok_kind HCC.out hc1
                                have x0 := below_cell HBR.out hax.1
                                have x1 := below_cell HBR.out hax.2.1
                                have x2 := below_cell HBR.out hax.2.2
                                simp only [shT] at x0 x1 x2
                                obtain ⟨kd, hkd⟩ : ∃ x, t1.kind = x := ⟨_, rfl⟩
                                obtain ⟨ld, hld⟩ : ∃ x, t1.line = x := ⟨_, rfl⟩
                                obtain ⟨S, hS⟩ : ∃ x, bsOf t1.text = x := ⟨_, rfl⟩
                                rw [hld] at hl1 hl2
                                obtain ⟨le, hle⟩ : ∃ x, ld + (n : Int) = x := ⟨_, rfl⟩
                                rw [hkd] at x0 y0
                                rw [hld] at x1 y1
                                rw [hle] at x1
                                rw [hS] at x2 y2
                                obtain ⟨mi, hmi⟩ : ∃ x, np + i + k = x := ⟨_, rfl⟩
                                rw [hmi] at x0 x1 x2
                                have w2x : IntKind.i64.wrap (ld + (n : Int)) = le := by
                                  rw [hle]; exact i64_in (by omega) (by omega)
                                have hjl : jl = np + i := by rw [HJL.out, HNP.out]
                                have w3x : IntKind.i64.wrap ((np : Int) + (i : Int)) = (jl : Int) := by
                                  have e : (np : Int) + (i : Int) = (jl : Int) := by omega
                                  rw [e]; exact i64_in (by omega) (by omega)
                                have w4x : IntKind.i64.wrap ((jl : Int) + (k : Int)) = (mi : Int) := by
                                  have e : (jl : Int) + (k : Int) = (mi : Int) := by omega
                                  rw [e]; exact i64_in (by omega) (by omega)
                                have hz2 : (k : Int) < (b.length : Int) := by omega
                                have hz3 : (mi : Int) < (cl : Int) := by omega
                                have hz4 : (0 : Int) ≤ (mi : Int) := by omega
                                clear hkd hld hS hmi hc1 hb1' hay hax hle hjl
                                go_wp2_with fail
                                obtain ⟨W9, hW9⟩ : ∃ W, wr.alloc (.cells #[.int .i64 kd, .int .i64 le, .string S] 33) = W := ⟨_, rfl⟩
                                obtain ⟨z0, z1, z2⟩ := alloc3 _ _ _ _ _ _ hW9
                                have x0' := alloc_cell' hW9 x0
                                have x1' := alloc_cell' hW9 x1
                                have x2' := alloc_cell' hW9 x2
                                have HB9 := Lib.hid (show Below w8.heap.size w8 W9 by rw [← hW9]; exact HBR.out.alloc hrs _)
                                rw [hW9]
                                clear hW9 y0 y1 y2 x0 x1 x2
                                go_quiet (fail)
                                go_wp2_with fail
                                go_roundw
                                case rel => exact ⟨k + 1, by go_num, by omega, HB9.out.trans ((below_drewN _ _).mono HB9.out.size)⟩
                                case measure => simp [intOf]; omega
                              · have hz1 : ¬ (k : Int) < (b.length : Int) := by omega
                                go_wp2_with fail
                                go_ret
                                exact ⟨rfl, HWJ.out _ (HB8.out.trans (HBR.out.mono (Nat.le_trans hCs hwz)))⟩
              · have hql : P.length = q.length + 1 := by rw [hP]; simp
                have hz1 : (o : Int) + 1 < (a.length : Int) := by omega
                have hPz : (P.length : Int) > 0 := by omega
                obtain ⟨j, hj⟩ : ∃ j : Nat, j = q.length := ⟨_, rfl⟩
                have w3x : IntKind.i64.wrap ((a.length : Int) - 2 - (o : Int)) = (j : Int) := by
                  have e : (a.length : Int) - 2 - (o : Int) = (j : Int) := by omega
                  rw [e]; exact i64_in (by omega) (by unfold maxLen at hale; omega)
                have HW6 := Lib.hid (show IntKind.i64.wrap ((P.length : Int) - 1) = (j : Int) by
                  have e : (P.length : Int) - 1 = (j : Int) := by omega
                  rw [e]; exact i64_in (by omega) (by unfold maxLen at hale; omega))
                have hjla : (j : Int) < (a.length : Int) := by omega
                have hjlp : (j : Int) < (P.length : Int) := by omega
                have qk := (tok_kind HCA.out (i := j) (t := t) (by rw [hj]; exact last_at HA.out hP)).1
                obtain ⟨kd, hkd⟩ : ∃ x, t.kind = x := ⟨_, rfl⟩
                rw [hkd] at qk htk
                have hk3 : (kd == 3) = false := by simpa using htk
                by_cases hk1 : kd = 1
                · have HOS := Lib.hid (HJ.out (.inr ⟨q, t, hP, by rw [hkd]; exact hk1⟩) (by omega))
                  have hjp1 : j + 1 ≤ P.length := by omega
                  have hjp2 : P.length ≤ j + 1 := by omega
                  clear hP hkd hk3 htk hql hj
                  subst hk1
                  go_upto_region 11 with fail
                  clear w2x w3x w1x hz1 hPz
                  have hmx : (P.length : Int) ≤ 9223372036854775806 := by unfold maxLen at hale; omega
                  have hmc : (P.length : Int) ≤ (ca : Int) := by omega
                  have hmz : (0 : Int) ≤ (P.length : Int) := by omega
                  go_cut [13] from 86 to 93 (fun s wx => ∃ np : Nat, np = P.length ∧ s = .slice (some ⟨ba, oa, none⟩) np ca ∧ w5 = wx)
                  case first =>
                    go_wp2_with fail
                    go_meet
                    exact ⟨P.length, rfl, rfl, rfl⟩
                  case rest =>
                    obtain ⟨np, hnp, rfl, rfl⟩ := hcut
                    have hmn : (np : Int) ≤ 9223372036854775806 := by omega
                    have hmj1 : np ≤ j + 1 := by omega
                    have hmj2 : j + 1 ≤ np := by omega
                    have HNP := Lib.hid hnp
                    clear hnp
                    go_upto_region 12 with fail
                    go_cut [105] from 93 to 106 (fun s wx => s = .bool false ∧ w5 = wx)
                    case first =>
                      have w6x : IntKind.i64.wrap ((np : Int) - 1) = (j : Int) := by
                        have e : (np : Int) - 1 = (j : Int) := by omega
                        rw [e]; exact i64_in (by omega) (by omega)
                      have hnz : (np : Int) > 0 := by omega
                      have hjn : (j : Int) < (np : Int) := by omega
                      clear w5x
                      go_wp2_with fail
                      go_meet
                      exact ⟨rfl, rfl⟩
                    case rest =>
                      obtain ⟨rfl, rfl⟩ := hcut
                      clear w5x qk hjla hjlp
                      have hnp := HNP.out
                      obtain ⟨os, hlx, hol, hok⟩ := HOS.out
                      obtain ⟨CX, hCX⟩ : ∃ x, P ++ os ++ List.map (shT ↑n) b = x := ⟨_, rfl⟩
                      rw [hCX] at hlx
                      have HLX := Lib.hid hlx
                      obtain ⟨cl, hcl⟩ : ∃ x, CX.length = x := ⟨_, rfl⟩
                      have hcl1 : cl ≤ P.length + o + b.length := by rw [← hcl, ← hCX]; simp; omega
                      have hcl2 : P.length + o + b.length ≤ cl := by rw [← hcl, ← hCX]; simp; omega
                      have HCL := Lib.hid hcl
                      have HC1 := Lib.hid (joins_p (P := P) (os := os) (c := CX) (k := b.map (shT ↑n)) (a := a) (r := outsD o ↑(n + 1) ++ [⟨0, ↑(n + 1), []⟩]) hCX.symm (by rw [HA.out, List.append_assoc]))
                      have HC2 := Lib.hid (joins_o (P := P) (os := os) (c := CX) (k := b.map (shT ↑n)) hCX.symm hok)
                      have HC3 := Lib.hid (joins_b (P := P) (os := os) (c := CX) (b := b) (n := ↑n) hCX.symm)
                      have HOL := Lib.hid hol
                      obtain ⟨hbq1, hbq2⟩ := joins_last HL1.out HA.out
                      have HQL := Lib.hid hbq1
                      have hn1 : n ≤ 140737488351300 := by omega
                      have HBL := Lib.hid (joins_lines HL2.out)
                      clear hlx hcl hCX hol hok HOS hbq1
                      obtain ⟨C, hC⟩ : ∃ x, w5.heap.size = x := ⟨_, rfl⟩
                      have hCs : C ≤ w5.heap.size := by omega
                      have hC5 : w5.heap.size ≤ C := by omega
                      have hBC : B ≤ C := by have h1 := HB5.out.size; omega
                      have HBA := Lib.hid (show Below C w5 (w5.alloc (.cells #[] 5)) from (Below.refl _ _).alloc hCs _)
                      have HAS := Lib.hid (o8_app (O8.fresh hCs) (((HO3.out.r8 (by omega)).keep HB35.out).keep ((Below.refl _ _).alloc (Nat.le_refl _) _)) (by simp; omega) (by simp only [List.length_nil]; omega))
                      rw [List.nil_append] at HAS
                      have HWJ := Lib.hid (fun (wx : World) (h : Below C w5 wx) => HWK.out _ (HB5.out.trans (h.mono hBC)))
                      clear hC
                      clear hnp
                      go_wp2_with (first
                        | (at_builtin; refine wpList_appR rfl (.tmp 107) (.tmp 108) rfl rfl rfl (by exact HAS.out _) ?_; rintro v8 w6 ⟨ho6, hb6⟩; have HB6 := Lib.hid (HBA.out.trans hb6); have hw6s : C ≤ w6.heap.size := (by have h1 := HB6.out.size; omega); have HAT := Lib.hid (o8_app ho6 (HR2.out.keep (HWJ.out _ HB6.out)) hw6s (by omega)); obtain ⟨p6, k6, rfl⟩ := ho6.form; clear ho6 hb6 HAS HBA)
                        | (at_builtin; refine wpList_appR rfl (.tmp 109) (.tmp 110) rfl rfl rfl (by exact HAT.out _) ?_; rintro v8 w7 ⟨ho7, hb7⟩; obtain ⟨TX, hTX⟩ : ∃ x, FX ++ m = x := ⟨_, rfl⟩; rw [hTX] at ho7; have HTX := Lib.hid hTX; have hT1 : TX.length ≤ 140737488351300 := (by rw [← hTX, List.length_append]; omega); clear hTX; obtain ⟨p7, k7, rfl⟩ := ho7.form; have HO7 := Lib.hid ho7; have HB7 := Lib.hid (HB6.out.trans hb7); have hw7s : C ≤ w7.heap.size := (by have h1 := HB7.out.size; omega); clear ho7 hb7 HAT)
                        | fail)
                      have HL3 := Lib.hid (lex_any _ TX w7 (HO7.out.r8 (by omega)) (tabS_keep HTAB.out (HWJ.out _ HB7.out)))
                      have hlx := HLX.out
                      rw [HTX.out] at hlx
                      rw [hlx] at HL3
                      clear hlx
                      refine HL3.out.mono ?_
                      rintro e w8 ⟨v14, rfl, hown, hb8⟩
                      have HB8 := Lib.hid (HB7.out.trans (hb8.mono hw7s))
                      have hwz := HB8.out.size
                      obtain ⟨pc, cc, rfl, hcc, hcx⟩ := rt_form (Rt.of hown)
                      obtain ⟨bc, oc, rfl, hcy⟩ := hcx (by rw [HCL.out]; omega)
                      have HCC := Lib.hid hcy
                      have HB58 := Lib.hid (HB8.out.mono hC5)
                      clear HL3 hb8 hcx hcy
                      rw [HCL.out] at hcc ⊢
                      have q17 := below_cell HB58.out (tok_kind HCA.out (i := jl) (by rw [hjl]; exact HQL.out)).2.1
                      have hcle := own_le hown
                      rw [HCL.out] at hcle
                      unfold maxLen at hcle
                      clear hown
                      have hnp := HNP.out
                      obtain ⟨L1, hL1⟩ : ∃ x : Int, x = ((n + 1 : Nat) : Int) := ⟨_, rfl⟩
                      simp only at q17
                      rw [← hL1] at q17
                      have w8x : IntKind.i64.wrap (L1 - 1) = (n : Int) := by
                        have e : L1 - 1 = (n : Int) := by omega
                        rw [e]; exact i64_in (by omega) (by omega)
                      have w7x : IntKind.i64.wrap ((jl : Int) + (b.length : Int)) = (cl : Int) := by
                        have e : (jl : Int) + (b.length : Int) = (cl : Int) := by omega
                        rw [e]; exact i64_in (by omega) (by omega)
                      have hjla2 : (jl : Int) < (a.length : Int) := by omega
                      have hnx : (np : Int) ≤ 9223372036854775806 := by omega
                      have hcn1 : cl ≤ np + o + b.length := by omega
                      have hcn2 : np + o + b.length ≤ cl := by omega
                      have hale2 : (a.length : Int) ≤ 9223372036854775807 := by unfold maxLen at hale; omega
                      have hble2 : (b.length : Int) ≤ 9223372036854775807 := by unfold maxLen at hble; omega
                      have HJL := Lib.hid hjl
                      clear hL1 hjl hnp hmx hmc hmz
                      go_wp2_with fail
                      clear w4x w7x w8x
                      go_loopw [18] (fun s18 wr => ∃ i q : Nat, s18 = .int .i64 i ∧ i ≤ np ∧ wr = w8.drewN q) (fun s18 wr => np - (intOf s18).toNat)
                      case atStart => exact ⟨0, 0, by go_num, Nat.zero_le _, rfl⟩
                      case round =>
                        obtain ⟨i, qd, rfl, hi, rfl⟩ := hrel
                        have w1x : IntKind.i64.wrap ((i : Int) + 1) = (i : Int) + 1 := i64_in (by omega) (by omega)
                        by_cases hlt1 : i < np
                        · obtain ⟨t1, hc1, ha1⟩ := HC1.out i (by rw [← HNP.out]; exact hlt1)
                          obtain ⟨x0, x1, x2⟩ := tok_kind HCC.out hc1
                          have hay := tok_kind HCA.out ha1
                          have y0 := below_cell HB58.out hay.1
                          have y1 := below_cell HB58.out hay.2.1
                          have y2 := below_cell HB58.out hay.2.2
                          obtain ⟨kd, hkd⟩ : ∃ x, t1.kind = x := ⟨_, rfl⟩
                          obtain ⟨ld, hld⟩ : ∃ x, t1.line = x := ⟨_, rfl⟩
                          obtain ⟨S, hS⟩ : ∃ x, bsOf t1.text = x := ⟨_, rfl⟩
                          rw [hkd] at x0 y0
                          rw [hld] at x1 y1
                          rw [hS] at x2 y2
                          have hz1 : (i : Int) < (np : Int) := by omega
                          have hz2 : (i : Int) < (cl : Int) := by omega
                          clear hkd hld hS hc1 ha1 hay
                          go_wp2_with fail
                          go_quiet (fail)
                          go_wp2_with fail
                          go_roundw
                          case rel => exact ⟨i + 1, _, by go_num, by omega, rfl⟩
                          case measure => simp [intOf]; omega
                        · obtain rfl : np = i := by omega
                          have hz1 : ¬ (np : Int) < (np : Int) := by omega
                          clear w1x
                          go_wp2_with fail
                          go_loopw [19] (fun s19 wr => ∃ i q : Nat, s19 = .int .i64 i ∧ i ≤ o ∧ wr = w8.drewN q) (fun s19 wr => o - (intOf s19).toNat)
                          case atStart => exact ⟨0, _, by go_num, Nat.zero_le _, rfl⟩
                          case round =>
                            obtain ⟨i, qd2, rfl, hi, rfl⟩ := hrel
                            have w1x : IntKind.i64.wrap ((i : Int) + 1) = (i : Int) + 1 := i64_in (by omega) (by omega)
                            by_cases hlt2 : i < o
                            · obtain ⟨t1, hc1, hk1⟩ := HC2.out i (by rw [HOL.out]; exact hlt2)
                              rw [← HNP.out] at hc1
                              have x0 := (tok_kind HCC.out hc1).1
                              rw [hk1] at x0
                              obtain ⟨mi, hmi⟩ : ∃ x, np + i = x := ⟨_, rfl⟩
                              rw [hmi] at x0
                              have w2x : IntKind.i64.wrap ((np : Int) + (i : Int)) = (mi : Int) := by
                                have e : (np : Int) + (i : Int) = (mi : Int) := by omega
                                rw [e]; exact i64_in (by omega) (by omega)
                              have hz2 : (i : Int) < (o : Int) := by omega
                              have hz3 : (mi : Int) < (cl : Int) := by omega
                              have hz4 : (0 : Int) ≤ (mi : Int) := by omega
                              clear hmi hc1 hk1
                              go_wp2_with fail
                              go_roundw
                              case rel => exact ⟨i + 1, _, by go_num, by omega, rfl⟩
                              case measure => simp [intOf]; omega
                            · obtain rfl : i = o := by omega
                              clear w1x
                              go_wp2_with fail
                              go_loopw [20] (fun s20 wr => ∃ k : Nat, s20 = .int .i64 k ∧ k ≤ b.length ∧ Below w8.heap.size w8 wr) (fun s20 wr => b.length - (intOf s20).toNat)
                              case atStart => exact ⟨0, by go_num, Nat.zero_le _, below_drewN _ _⟩
                              case round =>
                                obtain ⟨k, rfl, hk, hbr⟩ := hrel
                                have HBR := Lib.hid hbr
                                have hrs := hbr.size
                                clear hbr
                                by_cases hlt3 : k < b.length
                                · have w1x : IntKind.i64.wrap ((k : Int) + 1) = (k : Int) + 1 := i64_in (by omega) (by omega)
                                  obtain ⟨t1, hb1', hc1⟩ := HC3.out k hlt3
                                  rw [HOL.out, ← HNP.out] at hc1
                                  obtain ⟨hl1, hl2⟩ := HBL.out k t1 hb1'
                                  have hay := tok_kind HCB.out hb1'
                                  have y0 := below_cell HBR.out (below_cell HB58.out hay.1)
                                  have y1 := below_cell HBR.out (below_cell HB58.out hay.2.1)
                                  have y2 := below_cell HBR.out (below_cell HB58.out hay.2.2)
                                  have hax := tok_kind HCC.out hc1
                                  have x0 := below_cell HBR.out hax.1
                                  have x1 := below_cell HBR.out hax.2.1
                                  have x2 := below_cell HBR.out hax.2.2
                                  simp only [shT] at x0 x1 x2
                                  obtain ⟨kd, hkd⟩ : ∃ x, t1.kind = x := ⟨_, rfl⟩
                                  obtain ⟨ld, hld⟩ : ∃ x, t1.line = x := ⟨_, rfl⟩
                                  obtain ⟨S, hS⟩ : ∃ x, bsOf t1.text = x := ⟨_, rfl⟩
                                  rw [hld] at hl1 hl2
                                  obtain ⟨le, hle⟩ : ∃ x, ld + (n : Int) = x := ⟨_, rfl⟩
                                  rw [hkd] at x0 y0
                                  rw [hld] at x1 y1
                                  rw [hle] at x1
                                  rw [hS] at x2 y2
                                  obtain ⟨mi, hmi⟩ : ∃ x, np + i + k = x := ⟨_, rfl⟩
                                  rw [hmi] at x0 x1 x2
                                  have w2x : IntKind.i64.wrap (ld + (n : Int)) = le := by
                                    rw [hle]; exact i64_in (by omega) (by omega)
                                  have hjl : jl = np + i := by rw [HJL.out, HNP.out]
                                  have w3x : IntKind.i64.wrap ((np : Int) + (i : Int)) = (jl : Int) := by
                                    have e : (np : Int) + (i : Int) = (jl : Int) := by omega
                                    rw [e]; exact i64_in (by omega) (by omega)
                                  have w4x : IntKind.i64.wrap ((jl : Int) + (k : Int)) = (mi : Int) := by
                                    have e : (jl : Int) + (k : Int) = (mi : Int) := by omega
                                    rw [e]; exact i64_in (by omega) (by omega)
                                  have hz2 : (k : Int) < (b.length : Int) := by omega
                                  have hz3 : (mi : Int) < (cl : Int) := by omega
                                  have hz4 : (0 : Int) ≤ (mi : Int) := by omega
                                  clear hkd hld hS hmi hc1 hb1' hay hax hle hjl
                                  go_wp2_with fail
                                  obtain ⟨W9, hW9⟩ : ∃ W, wr.alloc (.cells #[.int .i64 kd, .int .i64 le, .string S] 33) = W := ⟨_, rfl⟩
                                  obtain ⟨z0, z1, z2⟩ := alloc3 _ _ _ _ _ _ hW9
                                  have x0' := alloc_cell' hW9 x0
                                  have x1' := alloc_cell' hW9 x1
                                  have x2' := alloc_cell' hW9 x2
                                  have HB9 := Lib.hid (show Below w8.heap.size w8 W9 by rw [← hW9]; exact HBR.out.alloc hrs _)
                                  rw [hW9]
                                  clear hW9 y0 y1 y2 x0 x1 x2
                                  go_quiet (fail)
                                  go_wp2_with fail
                                  go_roundw
                                  case rel => exact ⟨k + 1, by go_num, by omega, HB9.out.trans ((below_drewN _ _).mono HB9.out.size)⟩
                                  case measure => simp [intOf]; omega
                                · have hz1 : ¬ (k : Int) < (b.length : Int) := by omega
                                  go_wp2_with fail
                                  go_ret
                                  exact ⟨rfl, HWJ.out _ (HB8.out.trans (HBR.out.mono (Nat.le_trans hCs hwz)))⟩
                · have hk1b : (kd == 1) = false := by simpa using hk1
                  have hmx : (P.length : Int) ≤ 9223372036854775806 := by unfold maxLen at hale; omega
                  have hmc : (P.length : Int) ≤ (ca : Int) := by omega
                  have hmz : (0 : Int) ≤ (P.length : Int) := by omega
                  clear hql hP hkd hj
                  go_upto_region 11 with fail
                  clear w2x w3x w1x
                  have w6x := HW6.out
                  go_wp2_with fail
                  go_ret
                  exact ⟨rfl, HWK.out _ HB5.out⟩
end Go.Proofs.YtcjomeghcihecaaDoor
