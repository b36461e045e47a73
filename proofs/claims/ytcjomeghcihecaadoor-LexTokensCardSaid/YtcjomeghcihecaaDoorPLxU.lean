/- Layer 4: a token is taken. -/
import Derived.Test.YtcjomeghcihecaaDoorPLxT
namespace Go.Proofs.YtcjomeghcihecaaDoor
open Go Go.ChangeShapes Go.WideShapes Go.ChangeAt Go.RowKit Go.PlainAid Go.Maps
set_option linter.unusedVariables false
set_option linter.unusedSimpArgs false
theorem strS_len (q : UInt8) : ∀ (l : Bs) (st : StM) {p : Bs × Nat}, strS q st l = some p → 1 ≤ p.2 ∧ p.2 ≤ l.length
  | [], st, p, h => by cases st <;> simp [strS] at h
  | c :: r, st, p, h => by
    have ih := fun st' {p'} (h' : strS q st' r = some p') => strS_len q r st' h'
    have go : ∀ {st' : StM} {g : Bs × Nat → Bs}, (strS q st' r).map (fun p => (g p, p.2 + 1)) = some p → 1 ≤ p.2 ∧ p.2 ≤ (c :: r).length := by
      intro st' g h'
      simp only [Option.map_eq_some_iff] at h'
      obtain ⟨p', h1, rfl⟩ := h'
      have := ih st' h1
      simp only [List.length_cons]
      omega
    cases st with
    | plain =>
      simp only [strS] at h
      split at h
      · simp only [Option.some.injEq] at h; subst h; simp
      · split at h
        · cases h
        · split at h
          · exact go h
          · exact go h
    | esc =>
      simp only [strS] at h
      split at h
      · exact go h
      · split at h
        · cases h
        · exact go h
    | hex =>
      simp only [strS] at h
      split at h
      · cases h
      · exact go h
    | hex2 m =>
      simp only [strS] at h
      split at h
      · cases h
      · exact go h
theorem tokD_len {l : Bs} {p : Pc} (h : tokD l = some p) : 1 ≤ p.2.2 ∧ p.2.2 ≤ l.length := by
  cases l with
  | nil => cases h
  | cons c r =>
    simp only [tokD] at h
    by_cases hL : isL c = true
    · rw [if_pos hL] at h
      simp only [Option.some.injEq] at h
      subst h
      have h1 := namN_le (c :: r)
      have h2 := namN_head (r := r) hL
      simp only [namD]
      omega
    · rw [if_neg hL] at h
      by_cases hd : isD c = true
      · rw [if_pos hd] at h
        obtain ⟨_, h2, _⟩ := numD_take h (by rw [digN_head hd]; omega)
        have hge : digN (c :: r) ≤ exE (c :: r) := Nat.le_trans (digN_frE _) (frE_exE _)
        have h0 := digN_head (r := r) hd
        have h3 := exE_le (c :: r)
        omega
      · rw [if_neg hd] at h
        by_cases hq : c.toNat = 39 ∨ c.toNat = 34
        · rw [if_pos hq] at h
          simp only [strD, Option.map_eq_some_iff] at h
          obtain ⟨a, h1, rfl⟩ := h
          have := strS_len c r .plain h1
          simp only [List.length_cons]
          omega
        · rw [if_neg hq] at h
          simp only [symD, Option.map_eq_some_iff] at h
          obtain ⟨s, hs, rfl⟩ := h
          obtain ⟨hm, hp⟩ := symF_mem hs
          have h3 := (syms_clean s hm).2.2
          have h4 := (List.isPrefixOf_iff_prefix.1 hp).length_le
          have h5 : s.length ≠ 0 := fun e => h3 (List.length_eq_zero_iff.1 e)
          simp only
          omega
theorem tokD_row_len {l : Bs} {p : Pc} (h : tokD l = some p) : 1 ≤ p.2.2 ∧ p.2.2 ≤ (rowOf l).length := tokD_len (by rw [tokD_row]; exact h)
/-- What a token's taking leaves, the depth counted. -/
def TokQ (D : DataW Unit) (w : World) (B x mb kb : Nat) (σ : LxD) (r : Option Pc) (e : Ending) (w' : World) : Prop := match r with
  | some p => e = .returned (.int .i64 0) ∧ LX D w' B x mb kb { σ with a := σ.a + p.2.2, d := depD σ.d p.1 p.2.1, out := σ.out ++ [⟨p.1, σ.ln, p.2.1⟩] } ∧ Below B w w'
  | none => e = .returned (.int .i64 20) ∧ BadP D w w' B x mb kb σ.ln
theorem TokP.q {D : DataW Unit} {w w' : World} {B x mb kb : Nat} {σ : LxD} {r : Option Pc} {e : Ending} (h : TokP D w B x mb kb σ r e w') (hr : ∀ p, r = some p → p.1 ≠ 9) : TokQ D w B x mb kb σ r e w' := by
  cases r with
  | none => exact h
  | some p =>
    have hd : depD σ.d p.1 p.2.1 = σ.d := by unfold depD; rw [if_neg (hr p rfl)]
    unfold TokQ
    simp only [hd]
    exact h
theorem TokQ.low {D : DataW Unit} {w w1 w' : World} {B x mb kb : Nat} {σ : LxD} {r : Option Pc} {e : Ending} (h : TokQ D w1 B x mb kb σ r e w') (hb : Below B w w1) : TokQ D w B x mb kb σ r e w' := by
  cases r with
  | none => obtain ⟨h1, τ, h2, h3, h4⟩ := h; exact ⟨h1, τ, h2, h3, hb.trans h4⟩
  | some p => obtain ⟨h1, h2, h3⟩ := h; exact ⟨h1, h2, hb.trans h3⟩
theorem TokP.kinds {D : DataW Unit} {w w' : World} {B x mb kb : Nat} {σ : LxD} {r : Option Pc} {e : Ending} (h : TokP D w B x mb kb σ r e w') : ∃ c : Int, e = .returned (.int .i64 c) := by
  cases r with
  | none => exact ⟨20, h.1⟩
  | some p => exact ⟨0, h.1⟩
theorem numD_kind {l : Bs} : ∀ p, numD l = some p → p.1 ≠ 9 := by
  intro p h
  unfold numD at h
  split at h
  · cases h
  · simp only [Option.some.injEq] at h; subst h; simp only [numK]; split <;> omega
theorem strD_kind {l : Bs} : ∀ p, strD l = some p → p.1 ≠ 9 := by
  intro p h
  unfold strD at h
  cases l with
  | nil => cases h
  | cons q r => simp only [Option.map_eq_some_iff] at h; obtain ⟨a, _, rfl⟩ := h; simp
theorem namD_kind (l : Bs) : (namD l).1 ≠ 9 := by simp only [namD, namK]; split <;> omega
theorem syms_len : symsB.length = 30 := by decide
/-- The first symbols of the list are none of them. -/
theorem sym_none {l : Bs} (h : ∀ j, j < 30 → (symsB.getD j []).isPrefixOf l = false) : symF l = none := by
  unfold symF
  rw [List.find?_eq_none]
  intro s hs
  obtain ⟨j, hj, rfl⟩ := List.mem_iff_getElem.1 hs
  have := h j (by rw [← syms_len]; exact hj)
  rw [List.getD_eq_getElem?_getD, List.getElem?_eq_getElem hj] at this
  intro h2
  simp only [Option.getD_some] at this
  rw [this] at h2
  cases h2
theorem sym_first {l : Bs} {k : Nat} (hk : k < 30) (h : ∀ j, j < k → (symsB.getD j []).isPrefixOf l = false) (h1 : (symsB.getD k []).isPrefixOf l = true) : symF l = some (symsB.getD k []) := by
  unfold symF
  rw [List.find?_eq_some_iff_getElem]
  have hk' : k < symsB.length := by rw [syms_len]; exact hk
  have hg : symsB.getD k [] = symsB[k] := by rw [List.getD_eq_getElem?_getD, List.getElem?_eq_getElem hk']; rfl
  refine ⟨by rw [hg] at h1 ⊢; exact h1, k, hk', hg.symm, fun j hj => ?_⟩
  have := h j hj
  rw [List.getD_eq_getElem?_getD, List.getElem?_eq_getElem (by omega)] at this
  simp only [Option.getD_some] at this
  rw [this]
  rfl
theorem LX.mark {D : DataW Unit} {w : World} {B x mb kb : Nat} {σ : LxD} (h : LX D w B x mb kb σ) {j : Nat} (hj : j < 30) : w.cell? ⟨kb, j, none⟩ = some (.string (bsOf (symsB.getD j []))) := by
  obtain ⟨ov, tv, h⟩ := h
  have hj' : j < symsB.length := by rw [syms_len]; exact hj
  rw [World.cell?, h.fx.k]
  simp only
  rw [List.getElem?_toArray, List.getElem?_map, List.getElem?_eq_getElem hj', List.getD_eq_getElem?_getD, List.getElem?_eq_getElem hj']
  rfl
set_option maxRecDepth 100000 in
set_option maxHeartbeats 4000000 in
theorem takeToken_any {D : DataW Unit} (hD : TabD D) {w : World} {B x mb kb : Nat} {σ : LxD} (h : LX D w B x mb kb σ) (hs : σ.s.size ≤ 20000) (ha : σ.a < σ.s.size) (hol : σ.out.length ≤ 1000000) (hd : 0 ≤ σ.d ∧ σ.d ≤ 1000000) :
    Calls Tryd.prog 33 #[.pointer (some ⟨x, 0, none⟩)] w (TokQ D w B x mb kb σ (tokD (Rs σ.s σ.a))) := by
  obtain ⟨s, a, ln, d, op, out⟩ := σ
  simp only at h hs ha hol hd ⊢
  have H := Lib.hid h
  have c0 := h.choose_spec.choose_spec.c.c0
  have c1 := h.choose_spec.choose_spec.c.c1
  have c6 := h.choose_spec.choose_spec.c.c6
  simp only at c0 c1
  have hgs := get_bt s
  have haz : (a : Int) < (s.size : Int) := by omega
  obtain ⟨c, r1, r2⟩ := Rs_cons ha
  have htok : tokD (Rs s a) = if isL c then some (namD (Rs s a)) else if isD c then numD (Rs s a) else if c.toNat = 39 ∨ c.toNat = 34 then strD (Rs s a) else symD (Rs s a) := by rw [r1]; rfl
  rw [isL_int, isD_int, ← r2] at htok
  have hq39 : (c.toNat = 39 ∨ c.toNat = 34) ↔ (bt s a = 39 ∨ bt s a = 34) := by omega
  simp only [hq39] at htok
  have hqc : (bt s a = 39 ∨ bt s a = 34) → 32 ≤ c.toNat := by omega
  have HR2 := Lib.hid r2
  clear h hq39 r1 r2
  by_cases hL : isLi (bt s a) = true
  · rw [if_pos hL] at htok
    rw [htok]
    have HN := Lib.hid (fun (n : Nat) => takeName_any hD (σ := ⟨s, a, ln, d, op, out⟩) (H.out.drew n) hs (Nat.le_of_lt ha) hol)
    clear htok hqc
    go_enter Tryd.func33, Tryd.ntmps33
    go_wp2_with fail
    go_quiet (fail)
    go_wp2_with (first
      | (go_at_call 37; (with_reducible refine (isLetter_any (bt s a) _).mono ?_); rintro e w1 ⟨rfl, rfl⟩)
      | fail)
    refine (HN.out nq).mono ?_
    rintro e w2 ⟨rfl, hx2, hb2⟩
    have HX2 := Lib.hid hx2
    have HB2 := Lib.hid ((drew_below B w nq).trans hb2)
    clear hx2 hb2
    go_wp2_with fail
    refine bodyPost_ret (v := .int .i64 0) (by simp [results, Tryd.results33, go_sem]) rfl ?_
    exact TokP.q (r := some (namD (Rs s a))) ⟨rfl, HX2.out, HB2.out⟩ (fun p hp => by cases hp; exact namD_kind _)
  · have hL1 : isLi (bt s a) = false := by simpa using hL
    rw [if_neg hL] at htok
    by_cases hDg : isDi (bt s a) = true
    · rw [if_pos hDg] at htok
      rw [htok]
      have HN := Lib.hid (fun (n : Nat) => takeNumber_any (σ := ⟨s, a, ln, d, op, out⟩) (H.out.drew n) hs (Nat.le_of_lt ha) hol)
      clear htok hqc
      go_enter Tryd.func33, Tryd.ntmps33
      go_wp2_with fail
      go_quiet (fail)
      go_wp2_with (first
        | (go_at_call 37; (with_reducible refine (isLetter_any (bt s a) _).mono ?_); rintro e w1 ⟨rfl, rfl⟩)
        | (go_at_call 39; (with_reducible refine (isDigit_any (bt s a) _).mono ?_); rintro e w1 ⟨rfl, rfl⟩)
        | fail)
      refine (HN.out nq).mono ?_
      intro e w2 ht
      obtain ⟨cc, rfl⟩ := ht.kinds
      have HT := Lib.hid ((ht.q numD_kind).low (drew_below B w nq))
      clear ht
      go_wp2_with fail
      refine bodyPost_ret (v := .int .i64 cc) (by simp [results, Tryd.results33, go_sem]) rfl HT.out
    · have hD1 : isDi (bt s a) = false := by simpa using hDg
      rw [if_neg hDg] at htok
      by_cases hQ : bt s a = 39 ∨ bt s a = 34
      · rw [if_pos hQ] at htok
        rw [htok]
        have HN := Lib.hid (fun (n : Nat) => takeString_any (σ := ⟨s, a, ln, d, op, out⟩) (H.out.drew n) hs ha hol c (hqc hQ) HR2.out)
        have hqb : bt s a = 39 ∨ (¬ bt s a = 39 ∧ bt s a = 34) := by omega
        clear htok hqc hQ
        rcases hqb with hq1 | ⟨hq1, hq2⟩
        · have hb1 : (bt s a == 39) = true := by simpa using hq1
          clear hq1
          go_enter Tryd.func33, Tryd.ntmps33
          go_wp2_with fail
          go_quiet (fail)
          go_wp2_with (first
            | (go_at_call 37; (with_reducible refine (isLetter_any (bt s a) _).mono ?_); rintro e w1 ⟨rfl, rfl⟩)
            | (go_at_call 39; (with_reducible refine (isDigit_any (bt s a) _).mono ?_); rintro e w1 ⟨rfl, rfl⟩)
            | fail)
          refine (HN.out nq).mono ?_
          intro e w2 ht
          obtain ⟨cc, rfl⟩ := ht.kinds
          have HT := Lib.hid ((ht.q strD_kind).low (drew_below B w nq))
          clear ht
          go_wp2_with fail
          refine bodyPost_ret (v := .int .i64 cc) (by simp [results, Tryd.results33, go_sem]) rfl HT.out
        · have hb1 : (bt s a == 39) = false := by simpa using hq1
          have hb2 : (bt s a == 34) = true := by simpa using hq2
          clear hq1 hq2
          go_enter Tryd.func33, Tryd.ntmps33
          go_wp2_with fail
          go_quiet (fail)
          go_wp2_with (first
            | (go_at_call 37; (with_reducible refine (isLetter_any (bt s a) _).mono ?_); rintro e w1 ⟨rfl, rfl⟩)
            | (go_at_call 39; (with_reducible refine (isDigit_any (bt s a) _).mono ?_); rintro e w1 ⟨rfl, rfl⟩)
            | fail)
          refine (HN.out nq).mono ?_
          intro e w2 ht
          obtain ⟨cc, rfl⟩ := ht.kinds
          have HT := Lib.hid ((ht.q strD_kind).low (drew_below B w nq))
          clear ht
          go_wp2_with fail
          refine bodyPost_ret (v := .int .i64 cc) (by simp [results, Tryd.results33, go_sem]) rfl HT.out
      · rw [if_neg hQ] at htok
        rw [htok]
        have hb1 : (bt s a == 39) = false := by simpa using (fun h => hQ (.inl h))
        have hb2 : (bt s a == 34) = false := by simpa using (fun h => hQ (.inr h))
        have hes : s.extract a s.size = restB s a := rfl
        obtain ⟨R, hR⟩ : ∃ R, restB s a = R := ⟨_, rfl⟩
        rw [hR] at hes
        have HR := Lib.hid hR
        have hae : (a : Int) ≤ (s.size : Int) := by omega
        clear htok hqc hQ hR
        go_enter Tryd.func33, Tryd.ntmps33
        go_wp2_with fail
        go_quiet (fail)
        go_wp2_with (first
          | (go_at_call 37; (with_reducible refine (isLetter_any (bt s a) _).mono ?_); rintro e w1 ⟨rfl, rfl⟩)
          | (go_at_call 39; (with_reducible refine (isDigit_any (bt s a) _).mono ?_); rintro e w1 ⟨rfl, rfl⟩)
          | fail)
        go_loopw [40] (fun j4 wr => ∃ j : Nat, j4 = .int .i64 j ∧ j ≤ 30 ∧ (∀ i, i < j → (symsB.getD i []).isPrefixOf (Rs s a) = false) ∧ LX D wr B x mb kb ⟨s, a, ln, d, op, out⟩ ∧ Below B w wr) (fun j4 wr => 30 - (intOf j4).toNat)
        case atStart => exact ⟨0, rfl, by omega, fun i hi => absurd hi (by omega), H.out.drew _, drew_below _ _ _⟩
        case round =>
          obtain ⟨j, rfl, hj, hno, hx, hbw⟩ := hrel
          have HNO := Lib.hid hno
          have HX := Lib.hid hx
          have HBW := Lib.hid hbw
          have y0 := hx.choose_spec.choose_spec.c.c0
          have y1 := hx.choose_spec.choose_spec.c.c1
          simp only at y0 y1
          by_cases hlt : j < 30
          · have hlz : (j : Int) < 30 := by omega
            have hcell := hx.mark hlt
            obtain ⟨t, ht⟩ : ∃ t, symsB.getD j [] = t := ⟨_, rfl⟩
            rw [ht] at hcell
            have HTT := Lib.hid ht
            have HPF := Lib.hid (fun wx => Tryd.strings_HasPrefix R (bsOf t) wx)
            have hpv : Lib.hasPrefix R.data.toList (bsOf t).data.toList = t.isPrefixOf (Rs s a) := by rw [← HR.out, restB_list]; rfl
            rw [hpv] at HPF
            have HT0 := Lib.hid (show t.length ≤ 3 by
              rw [← ht]
              have : ∀ s ∈ symsB, s.length ≤ 3 := by decide
              have hj' : j < symsB.length := by rw [syms_len]; exact hlt
              rw [List.getD_eq_getElem?_getD, List.getElem?_eq_getElem hj']
              exact this _ (List.getElem_mem hj'))
            clear hno hx hbw ht hpv c0 c1 c6
            cases hpf : t.isPrefixOf (Rs s a)
            · rw [hpf] at HPF
              go_wp2_with fail
              go_quiet ((go_at_call 42; with_reducible exact Calls.quiet_of_same (HPF.out _)))
              go_wp2_with fail
              go_roundw
              case rel =>
                refine ⟨j + 1, by go_num, by omega, fun i hi => ?_, HX.out.drew _, HBW.out.trans (drew_below _ _ _)⟩
                by_cases e : i = j
                · subst e; rw [HTT.out]; exact hpf
                · exact HNO.out i (by omega)
              case measure => simp [intOf]; omega
            · rw [hpf] at HPF
              have hsym : symD (Rs s a) = some (9, t, t.length) := by
                unfold symD
                rw [sym_first hlt HNO.out (by rw [HTT.out]; exact hpf), HTT.out]
                rfl
              have HSY := Lib.hid hsym
              have hsz : (bsOf t).size = t.length := by rw [Lib.size_eq]; rfl
              have w1 : IntKind.i64.wrap ((a : Int) + (t.length : Int)) = ((a + t.length : Nat) : Int) := by have := HT0.out; rw [i64_in (by omega) (by omega)]; omega
              clear hsym hpf
              go_wp2_with fail
              go_quiet ((go_at_call 42; with_reducible exact Calls.quiet_of_same (HPF.out _)))
              go_wp2_with fail
              refine (bracket_any (σ := ⟨s, a, ln, d, op, out⟩) (HX.out.drew _) hd t).mono ?_
              rintro e w6 ⟨rfl, hx6, hb6⟩
              have HX6 := Lib.hid hx6
              have HB6 := Lib.hid ((HBW.out.trans (drew_below _ _ nq)).trans hb6)
              clear hx6 hb6
              go_wp2_with fail
              refine (put_any (σ := ⟨s, a, ln, depD d 9 t, op, out⟩) HX6.out hol 9 t).mono ?_
              rintro e w7 ⟨rfl, hx7, hb7⟩
              have HX7 := Lib.hid hx7
              have HB7 := Lib.hid (HB6.out.trans hb7)
              have z1 := hx7.choose_spec.choose_spec.c.c1
              have g1 := hx7.choose_spec.choose_spec.c.f 1
              simp only at z1
              clear hx7 hb7
              go_wp2_with fail
              refine bodyPost_ret (v := .int .i64 0) (by simp [results, Tryd.results33, go_sem]) rfl ?_
              rw [HSY.out]
              exact ⟨rfl, (HX7.out.setAt (a + t.length)).1, HB7.out.trans (HX7.out.setAt (a + t.length)).2⟩
          · obtain rfl : j = 30 := by omega
            have hsym : symD (Rs s a) = none := by unfold symD; rw [sym_none HNO.out]; rfl
            have HSY := Lib.hid hsym
            clear hno hx hbw hsym
            go_wp2_with fail
            refine bodyPost_ret (v := .int .i64 20) (by simp [results, Tryd.results33, go_sem]) rfl ?_
            rw [HSY.out]
            exact ⟨rfl, _, HX.out, rfl, HBW.out⟩
end Go.Proofs.YtcjomeghcihecaaDoor
