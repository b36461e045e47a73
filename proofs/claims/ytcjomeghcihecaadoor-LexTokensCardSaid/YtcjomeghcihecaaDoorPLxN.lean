/- Layer 4: a name is taken. -/
import Derived.Test.YtcjomeghcihecaaDoorPLxJ
import Derived.StringKeys
namespace Go.Proofs.YtcjomeghcihecaaDoor
open Go Go.ChangeShapes Go.WideShapes Go.ChangeAt Go.RowKit Go.PlainAid Go.Maps
set_option linter.unusedVariables false
set_option linter.unusedSimpArgs false
theorem keyS : Keyed Tryd.prog 9 := string_keyed Tryd.underlying9
theorem zeroI (w : World) : (zeroValue 3).run Tryd.prog w = .ok (.int .i64 0) w := by kernel_rfl
/-- The table of words: above 0 at words alone. -/
def TabD (D : DataW Unit) : Prop := ∀ l : Bs, ∃ c : Int, D.atKey (.string l) (.lit (.int .i64 0)) = .lit (.int .i64 c) ∧ (0 < c ↔ wordsB.contains l = true)
theorem look_run {D : DataW Unit} {w : World} {mb kb : Nat} (hf : Fx D w mb kb) (hD : TabD D) (t : ByteArray) (ht : t.size ≤ 20000) :
    ∃ c : Int, (0 < c ↔ wordsB.contains t.data.toList = true) ∧ ∀ n, (Instr.lookup 41 (.map (some mb)) (.string t) false).run Tryd.prog (w.drewN n) = .ok (.int .i64 c) (w.drewN n) := by
  obtain ⟨c, hc, hw⟩ := hD t.data.toList
  refine ⟨c, hw, fun n => ?_⟩
  have hkey : keyOf Tryd.prog 9 (.string t) = some (.string t.data.toList) := Go.WideMaps.keyOf_string_mk Tryd.underlying9 (by unfold maxLen; omega)
  obtain ⟨c', hrun, hat, _⟩ := ((hf.of (w' := w.drewN n) rfl rfl).m).lookup_int keyS Tryd.underlying41 Tryd.underlying3 (zeroI _) hkey
  rw [hc] at hat
  simp only [DataW.lit.injEq, Lit.int.injEq, true_and] at hat
  rw [hrun, hat]
theorem nam_step {s : ByteArray} {k : Nat} (h : k < s.size) (hc : (isLi (bt s k) || isDi (bt s k)) = true) : namN (Rs s k) = namN (Rs s (k + 1)) + 1 := by
  obtain ⟨c, h1, h2⟩ := Rs_cons h
  rw [h1]
  unfold namN
  rw [List.takeWhile_cons, if_pos (by unfold isLD; rw [isL_int, isD_int, ← h2]; exact hc)]
  rfl
theorem nam_stop {s : ByteArray} {k : Nat} (h : k < s.size) (hc : (isLi (bt s k) || isDi (bt s k)) = false) : namN (Rs s k) = 0 := by
  obtain ⟨c, h1, h2⟩ := Rs_cons h
  rw [h1]
  unfold namN
  rw [List.takeWhile_cons, if_neg (by unfold isLD; rw [isL_int, isD_int, ← h2, hc]; decide)]
  rfl
theorem nam_end {s : ByteArray} {k : Nat} (h : s.size ≤ k) : namN (Rs s k) = 0 := by rw [Rs_end h]; rfl
theorem nam_len_le (s : ByteArray) (k : Nat) : namN (Rs s k) ≤ s.size - k := by rw [← Rs_len]; exact namN_le _
/-- The rest of a source as a text of its own. -/
def restB (s : ByteArray) (a : Nat) : ByteArray := s.extract a s.size
theorem restB_list (s : ByteArray) (a : Nat) : (restB s a).data.toList = Rs s a := by
  unfold restB Rs
  rw [← Lib.toList_data, Lib.extract_toList, List.take_of_length_le (by rw [List.length_drop, ← Lib.size_eq]; exact Nat.le_refl _)]
theorem restB_size (s : ByteArray) (a : Nat) : (restB s a).size = s.size - a := by rw [Lib.size_eq, restB_list, Rs_len]
theorem restB_Rs (s : ByteArray) (a k : Nat) : Rs (restB s a) k = Rs s (a + k) := by
  show (restB s a).data.toList.drop k = _
  rw [restB_list, Rs_drop]
theorem isLi_hi {b : Int} (h : 128 ≤ b) : isLi b = false ∧ isDi b = false := by
  unfold isLi isDi
  simp only [Bool.or_eq_false_iff, Bool.and_eq_false_iff, decide_eq_false_iff_not]
  omega
theorem LX.iterAt {D : DataW Unit} {w : World} {B x mb kb : Nat} {σ : LxD} (h : LX D w B x mb kb σ) {k : Nat} {R : ByteArray} {pos : Nat} (hk : w.heap[k]? = some (.stringIter R pos)) (p2 : Nat) : LX D (w.iterAt k R p2) B x mb kb σ := by
  obtain ⟨ov, tv, h⟩ := h
  have hne : ∀ {b : Nat} {cs : Array Value} {T : TypeId} {fr : Nat × Nat}, w.heap[b]? = some (.cells cs T fr) → b ≠ k := fun hb e => by rw [e, hk] at hb; cases hb
  have hrow : ∀ {e : TypeId} {sz n : Nat} {v : Value} {xs : List Value}, w.ownsRow B e sz v n xs → (w.iterAt k R p2).ownsRow B e sz v n xs := fun {e sz n v xs} hr => owns_of hr fun g hg => Lib.iterAt_other w k g R p2 (by
    rcases hr.2 with ⟨rfl, _⟩ | ⟨g', cap, cur, rfl, _, hh, _⟩
    · cases hg
    · simp only [Value.ownBlock, Option.some.injEq] at hg
      subst hg
      exact hne hh)
  have hxk : x ≠ k := by
    intro e
    have := h.c.c0
    subst e
    simp [World.cell?, hk] at this
  refine ⟨ov, tv, { h with
    c := h.c.of (Lib.iterAt_other w k x R p2 hxk)
    o := hrow h.o
    t := hrow h.t
    fx := h.fx.of (Lib.iterAt_other w k mb R p2 ?_) (Lib.iterAt_other w k kb R p2 (hne h.fx.k)) }⟩
  intro e
  obtain ⟨es, clock, h1, _⟩ := h.fx.m
  rw [e, hk] at h1
  cases h1
set_option maxRecDepth 100000 in
set_option maxHeartbeats 4000000 in
theorem takeName_any {D : DataW Unit} (hD : TabD D) {w : World} {B x mb kb : Nat} {σ : LxD} (h : LX D w B x mb kb σ) (hs : σ.s.size ≤ 20000) (ha : σ.a ≤ σ.s.size) (hol : σ.out.length ≤ 1000000) :
    Calls Tryd.prog 38 #[.pointer (some ⟨x, 0, none⟩)] w fun e w' => e = .returned (.tuple #[]) ∧
      LX D w' B x mb kb { σ with a := σ.a + (namD (Rs σ.s σ.a)).2.2, out := σ.out ++ [⟨(namD (Rs σ.s σ.a)).1, σ.ln, (namD (Rs σ.s σ.a)).2.1⟩] } ∧ Below B w w' := by
  obtain ⟨s, a, ln, d, op, out⟩ := σ
  simp only at h hs ha hol ⊢
  have H := Lib.hid h
  have c0 := h.choose_spec.choose_spec.c.c0
  have c1 := h.choose_spec.choose_spec.c.c1
  have hbx := h.choose_spec.choose_spec.bx
  have hxl := h.choose_spec.choose_spec.c.lt
  simp only at c0 c1
  clear h
  obtain ⟨R, hR⟩ : ∃ R, s.extract a s.size = R := ⟨_, rfl⟩
  have HR := Lib.hid (show restB s a = R from hR)
  have HRS := Lib.hid (show R.size = s.size - a by rw [← HR.out, restB_size])
  have hRle : R.size ≤ 20000 := by have := HRS.out; omega
  have hb := get_bt R
  have haz : (a : Int) ≤ (s.size : Int) := by omega
  go_enter Tryd.func38, Tryd.ntmps38
  go_wp2_with fail
  go_quiet (fail)
  go_wp2_with fail
  go_loopw [3, 4] (fun n3 i4 wr => ∃ pos : Nat, n3 = .int .i64 R.size ∧ wr.heap[w.heap.size]? = some (.stringIter R pos) ∧ pos ≤ R.size ∧ namN (Rs R 0) = pos + namN (Rs R pos) ∧ LX D wr B x mb kb ⟨s, a, ln, d, op, out⟩ ∧ Below B w wr) (fun n3 i4 wr => R.size - wr.iterPos w.heap.size)
  case atStart => exact ⟨0, rfl, heap_alloc_new _ _, Nat.zero_le _, by omega, (H.out.drew _).keep ((Below.refl _ _).alloc (Nat.le_refl _) _), (drew_below B w nq).alloc (by show B ≤ w.heap.size; omega) _⟩
  case round =>
    obtain ⟨pos, rfl, hit, hp, hnm, hx, hbw⟩ := hrel
    have HX := Lib.hid hx
    have HNM := Lib.hid hnm
    have HBW := Lib.hid hbw
    have HIT := Lib.hid hit
    clear hx hnm hbw
    by_cases hlt : pos < R.size
    · have hb0 := bt_nonneg R pos
      have hgb := hb pos hlt
      have HXI := Lib.hid (fun p2 : Nat => (show LX D (wr.iterAt w.heap.size R p2) B x mb kb ⟨s, a, ln, d, op, out⟩ from HX.out.iterAt HIT.out p2))
      have HBI := Lib.hid (fun p2 : Nat => Lib.below_iterAt HBW.out (k := w.heap.size) (by omega) R p2)
      have HII := Lib.hid (fun p2 : Nat => Lib.iterAt_heap wr w.heap.size R pos p2 HIT.out)
      by_cases h128 : bt R pos < 128
      · have h1z : ¬ (bt R pos ≥ 128) := by omega
        have hnx := Lib.run_next_ascii_at (P := Tryd.prog) wr w.heap.size R pos 0 hit hlt (by omega)
        rw [hgb] at hnx
        have e8 : IntKind.u8.wrap (bt R pos) = bt R pos := u8_in hb0 (by omega)
        cases hc : (isLi (bt R pos) || isDi (bt R pos))
        · have hc1 : isLi (bt R pos) = false := by simp only [Bool.or_eq_false_iff] at hc; exact hc.1
          have hc2 : isDi (bt R pos) = false := by simp only [Bool.or_eq_false_iff] at hc; exact hc.2
          have HCC := Lib.hid hc
          clear hc hgb
          replace HX := Lib.hid (HXI.out (pos + 1))
          replace HBW := Lib.hid (HBI.out (pos + 1))
          clear HXI HBI HII
          have hN : namN (Rs s a) = pos := by
            have h1 := HNM.out
            rw [show Rs R 0 = Rs s a by rw [← HR.out, restB_Rs, Nat.add_zero]] at h1
            have h2 := nam_stop hlt HCC.out
            omega
          obtain ⟨tx, htx⟩ : ∃ tx, (Rs s a).take pos = tx := ⟨_, rfl⟩
          have hTl : (R.extract 0 pos).data.toList = tx := by
            rw [← Lib.toList_data, Lib.extract_toList, List.drop_zero, Nat.sub_zero, show R.data.toList = Rs s a by rw [← HR.out, restB_list], htx]
          have hT : R.extract 0 pos = bsOf tx := by
            rw [← hTl]; unfold bsOf; generalize R.extract 0 pos = T; obtain ⟨⟨l⟩⟩ := T; rfl
          have hTs : (bsOf tx).size ≤ 20000 := by rw [← hT, Lib.size_eq, hTl, ← htx, List.length_take]; omega
          obtain ⟨ov, tv, hv⟩ := HX.out
          obtain ⟨c, hcw, hlk⟩ := look_run hv.fx hD (bsOf tx) hTs
          have hnd : namD (Rs s a) = (if 0 < c then 8 else 4, tx, pos) := by
            unfold namD namK
            rw [hN, htx]
            have hcw' : 0 < c ↔ wordsB.contains tx = true := hcw
            by_cases h0 : 0 < c
            · rw [if_pos (hcw'.1 h0), if_pos h0]
            · rw [if_neg (fun h => h0 (hcw'.2 h)), if_neg h0]
          have HND := Lib.hid hnd
          have c5 := hv.c.c5
          have hTz : ((pos : Nat) : Int) ≤ (R.size : Int) := by omega
          have HV := Lib.hid hv
          have hRa := HRS.out
          have e1 : IntKind.i64.wrap ((a : Int) + ((pos : Nat) : Int)) = ((a + pos : Nat) : Int) := by rw [i64_in (by omega) (by omega)]; omega
          clear hN hTl hcw hnd hv c0 c1 htx hTs hRa
          by_cases h0 : 0 < c
          · have h0z : c > 0 := h0
            have HND2 := Lib.hid (show namD (Rs s a) = (8, tx, pos) by rw [HND.out, if_pos h0])
            clear HND
            go_wp2_with (first
              | (go_at_call 37; (with_reducible refine (isLetter_any (bt R pos) _).mono ?_); rintro e w1 ⟨rfl, rfl⟩)
              | (go_at_call 39; (with_reducible refine (isDigit_any (bt R pos) _).mono ?_); rintro e w1 ⟨rfl, rfl⟩)
              | fail)
            go_quiet (fail)
            go_wp2_with fail
            refine (put_any (σ := ⟨s, a, ln, d, op, out⟩) ⟨_, _, HV.out.keep (drew_below _ _ _)⟩ hol 8 tx).mono ?_
            rintro e w6 ⟨rfl, hx6, hb6⟩
            have HX6 := Lib.hid hx6
            have HB6 := Lib.hid ((HBW.out.trans (drew_below B _ nq)).trans hb6)
            have y1 := hx6.choose_spec.choose_spec.c.c1
            have g1 := hx6.choose_spec.choose_spec.c.f 1
            simp only at y1
            clear hx6 hb6 hlk
            go_wp2_with fail
            refine bodyPost_end (v := .tuple #[]) (by simp [results, Tryd.results38, go_sem]) rfl ⟨rfl, ?_, ?_⟩
            · rw [HND2.out]
              exact (HX6.out.setAt (a + pos)).1
            · exact HB6.out.trans (HX6.out.setAt (a + pos)).2
          · have h0z : ¬ (c > 0) := h0
            have HND2 := Lib.hid (show namD (Rs s a) = (4, tx, pos) by rw [HND.out, if_neg h0])
            clear HND
            go_wp2_with (first
              | (go_at_call 37; (with_reducible refine (isLetter_any (bt R pos) _).mono ?_); rintro e w1 ⟨rfl, rfl⟩)
              | (go_at_call 39; (with_reducible refine (isDigit_any (bt R pos) _).mono ?_); rintro e w1 ⟨rfl, rfl⟩)
              | fail)
            go_quiet (fail)
            go_wp2_with fail
            refine (put_any (σ := ⟨s, a, ln, d, op, out⟩) ⟨_, _, HV.out.keep (drew_below _ _ _)⟩ hol 4 tx).mono ?_
            rintro e w6 ⟨rfl, hx6, hb6⟩
            have HX6 := Lib.hid hx6
            have HB6 := Lib.hid ((HBW.out.trans (drew_below B _ nq)).trans hb6)
            have y1 := hx6.choose_spec.choose_spec.c.c1
            have g1 := hx6.choose_spec.choose_spec.c.f 1
            simp only at y1
            clear hx6 hb6 hlk
            go_wp2_with fail
            refine bodyPost_end (v := .tuple #[]) (by simp [results, Tryd.results38, go_sem]) rfl ⟨rfl, ?_, ?_⟩
            · rw [HND2.out]
              exact (HX6.out.setAt (a + pos)).1
            · exact HB6.out.trans (HX6.out.setAt (a + pos)).2
        · have HCC := Lib.hid hc
          clear hgb
          have hgo : isLi (bt R pos) = true ∨ (isLi (bt R pos) = false ∧ isDi (bt R pos) = true) := by
            cases h1 : isLi (bt R pos)
            · rw [h1, Bool.false_or] at hc; exact .inr ⟨rfl, hc⟩
            · exact .inl rfl
          clear hc
          rcases hgo with hc1 | ⟨hc1, hc2⟩
          all_goals
            go_wp2_with (first
    | (go_at_call 37; (with_reducible refine (isLetter_any (bt R pos) _).mono ?_); rintro e w1 ⟨rfl, rfl⟩)
    | (go_at_call 39; (with_reducible refine (isDigit_any (bt R pos) _).mono ?_); rintro e w1 ⟨rfl, rfl⟩)
    | fail)
            go_roundw
            case rel =>
              refine ⟨pos + 1, rfl, HII.out (pos + 1), by omega, ?_, HXI.out (pos + 1), HBI.out (pos + 1)⟩
              have h1 := nam_step hlt HCC.out
              have h2 := HNM.out
              omega
            case measure =>
              have h1 := HII.out (pos + 1)
              have h2 := HIT.out
              simp only [World.iterPos, h1, h2]
              omega
      · have hh := decode_high R pos hlt (by omega)
        have hnx := Lib.run_next_any_at (P := Tryd.prog) wr w.heap.size R pos 0 hit hlt
        obtain ⟨rr, hrr⟩ : ∃ rr, (Utf8.decode R pos).1 = rr := ⟨_, rfl⟩
        obtain ⟨ww, hww⟩ : ∃ ww, (Utf8.decode R pos).2 = ww := ⟨_, rfl⟩
        rw [hrr, hww] at hnx
        rw [hrr] at hh
        have h1z : (rr : Int) ≥ 128 := by omega
        have HCC := Lib.hid (show (isLi (bt R pos) || isDi (bt R pos)) = false by
          have := isLi_hi (b := bt R pos) (by omega)
          rw [this.1, this.2]; rfl)
        clear hgb hrr hww hh
        replace HX := Lib.hid (HXI.out (pos + ww))
        replace HBW := Lib.hid (HBI.out (pos + ww))
        clear HXI HBI HII
        have hN : namN (Rs s a) = pos := by
          have h1 := HNM.out
          rw [show Rs R 0 = Rs s a by rw [← HR.out, restB_Rs, Nat.add_zero]] at h1
          have h2 := nam_stop hlt HCC.out
          omega
        obtain ⟨tx, htx⟩ : ∃ tx, (Rs s a).take pos = tx := ⟨_, rfl⟩
        have hTl : (R.extract 0 pos).data.toList = tx := by
          rw [← Lib.toList_data, Lib.extract_toList, List.drop_zero, Nat.sub_zero, show R.data.toList = Rs s a by rw [← HR.out, restB_list], htx]
        have hT : R.extract 0 pos = bsOf tx := by
          rw [← hTl]; unfold bsOf; generalize R.extract 0 pos = T; obtain ⟨⟨l⟩⟩ := T; rfl
        have hTs : (bsOf tx).size ≤ 20000 := by rw [← hT, Lib.size_eq, hTl, ← htx, List.length_take]; omega
        obtain ⟨ov, tv, hv⟩ := HX.out
        obtain ⟨c, hcw, hlk⟩ := look_run hv.fx hD (bsOf tx) hTs
        have hnd : namD (Rs s a) = (if 0 < c then 8 else 4, tx, pos) := by
          unfold namD namK
          rw [hN, htx]
          have hcw' : 0 < c ↔ wordsB.contains tx = true := hcw
          by_cases h0 : 0 < c
          · rw [if_pos (hcw'.1 h0), if_pos h0]
          · rw [if_neg (fun h => h0 (hcw'.2 h)), if_neg h0]
        have HND := Lib.hid hnd
        have c5 := hv.c.c5
        have hTz : ((pos : Nat) : Int) ≤ (R.size : Int) := by omega
        have HV := Lib.hid hv
        have hRa := HRS.out
        have e1 : IntKind.i64.wrap ((a : Int) + ((pos : Nat) : Int)) = ((a + pos : Nat) : Int) := by rw [i64_in (by omega) (by omega)]; omega
        clear hN hTl hcw hnd hv c0 c1 htx hTs hRa
        by_cases h0 : 0 < c
        · have h0z : c > 0 := h0
          have HND2 := Lib.hid (show namD (Rs s a) = (8, tx, pos) by rw [HND.out, if_pos h0])
          clear HND
          go_wp2_with fail
          go_quiet (fail)
          go_wp2_with fail
          refine (put_any (σ := ⟨s, a, ln, d, op, out⟩) ⟨_, _, HV.out.keep (drew_below _ _ _)⟩ hol 8 tx).mono ?_
          rintro e w6 ⟨rfl, hx6, hb6⟩
          have HX6 := Lib.hid hx6
          have HB6 := Lib.hid ((HBW.out.trans (drew_below B _ nq)).trans hb6)
          have y1 := hx6.choose_spec.choose_spec.c.c1
          have g1 := hx6.choose_spec.choose_spec.c.f 1
          simp only at y1
          clear hx6 hb6 hlk
          go_wp2_with fail
          refine bodyPost_end (v := .tuple #[]) (by simp [results, Tryd.results38, go_sem]) rfl ⟨rfl, ?_, ?_⟩
          · rw [HND2.out]
            exact (HX6.out.setAt (a + pos)).1
          · exact HB6.out.trans (HX6.out.setAt (a + pos)).2
        · have h0z : ¬ (c > 0) := h0
          have HND2 := Lib.hid (show namD (Rs s a) = (4, tx, pos) by rw [HND.out, if_neg h0])
          clear HND
          go_wp2_with fail
          go_quiet (fail)
          go_wp2_with fail
          refine (put_any (σ := ⟨s, a, ln, d, op, out⟩) ⟨_, _, HV.out.keep (drew_below _ _ _)⟩ hol 4 tx).mono ?_
          rintro e w6 ⟨rfl, hx6, hb6⟩
          have HX6 := Lib.hid hx6
          have HB6 := Lib.hid ((HBW.out.trans (drew_below B _ nq)).trans hb6)
          have y1 := hx6.choose_spec.choose_spec.c.c1
          have g1 := hx6.choose_spec.choose_spec.c.f 1
          simp only at y1
          clear hx6 hb6 hlk
          go_wp2_with fail
          refine bodyPost_end (v := .tuple #[]) (by simp [results, Tryd.results38, go_sem]) rfl ⟨rfl, ?_, ?_⟩
          · rw [HND2.out]
            exact (HX6.out.setAt (a + pos)).1
          · exact HB6.out.trans (HX6.out.setAt (a + pos)).2
    · have hnx := Lib.run_next_end_at (P := Tryd.prog) wr w.heap.size R pos 0 hit hlt
      have hpe : pos = R.size := by omega
      have HPE := Lib.hid hpe
      clear hpe
      have hN : namN (Rs s a) = R.size := by
        have h1 := HNM.out
        rw [show Rs R 0 = Rs s a by rw [← HR.out, restB_Rs, Nat.add_zero]] at h1
        have h2 := nam_end (s := R) (k := pos) (by omega)
        have h3 := HPE.out
        omega
      obtain ⟨tx, htx⟩ : ∃ tx, (Rs s a).take R.size = tx := ⟨_, rfl⟩
      have hTl : (R.extract 0 R.size).data.toList = tx := by
        rw [← Lib.toList_data, Lib.extract_toList, List.drop_zero, Nat.sub_zero, show R.data.toList = Rs s a by rw [← HR.out, restB_list], htx]
      have hT : R.extract 0 R.size = bsOf tx := by
        rw [← hTl]; unfold bsOf; generalize R.extract 0 R.size = T; obtain ⟨⟨l⟩⟩ := T; rfl
      have hTs : (bsOf tx).size ≤ 20000 := by rw [← hT, Lib.size_eq, hTl, ← htx, List.length_take]; omega
      obtain ⟨ov, tv, hv⟩ := HX.out
      obtain ⟨c, hcw, hlk⟩ := look_run hv.fx hD (bsOf tx) hTs
      have hnd : namD (Rs s a) = (if 0 < c then 8 else 4, tx, R.size) := by
        unfold namD namK
        rw [hN, htx]
        have hcw' : 0 < c ↔ wordsB.contains tx = true := hcw
        by_cases h0 : 0 < c
        · rw [if_pos (hcw'.1 h0), if_pos h0]
        · rw [if_neg (fun h => h0 (hcw'.2 h)), if_neg h0]
      have HND := Lib.hid hnd
      have c5 := hv.c.c5
      have hTz : ((R.size : Nat) : Int) ≤ (R.size : Int) := by omega
      have HV := Lib.hid hv
      have hRa := HRS.out
      have e1 : IntKind.i64.wrap ((a : Int) + ((R.size : Nat) : Int)) = ((a + R.size : Nat) : Int) := by rw [i64_in (by omega) (by omega)]; omega
      clear hN hTl hcw hnd hv c0 c1 htx hTs hRa
      by_cases h0 : 0 < c
      · have h0z : c > 0 := h0
        have HND2 := Lib.hid (show namD (Rs s a) = (8, tx, R.size) by rw [HND.out, if_pos h0])
        clear HND
        go_wp2_with fail
        go_quiet (fail)
        go_wp2_with fail
        refine (put_any (σ := ⟨s, a, ln, d, op, out⟩) ⟨_, _, HV.out.keep (drew_below _ _ _)⟩ hol 8 tx).mono ?_
        rintro e w6 ⟨rfl, hx6, hb6⟩
        have HX6 := Lib.hid hx6
        have HB6 := Lib.hid ((HBW.out.trans (drew_below B _ nq)).trans hb6)
        have y1 := hx6.choose_spec.choose_spec.c.c1
        have g1 := hx6.choose_spec.choose_spec.c.f 1
        simp only at y1
        clear hx6 hb6 hlk
        go_wp2_with fail
        refine bodyPost_end (v := .tuple #[]) (by simp [results, Tryd.results38, go_sem]) rfl ⟨rfl, ?_, ?_⟩
        · rw [HND2.out]
          exact (HX6.out.setAt (a + R.size)).1
        · exact HB6.out.trans (HX6.out.setAt (a + R.size)).2
      · have h0z : ¬ (c > 0) := h0
        have HND2 := Lib.hid (show namD (Rs s a) = (4, tx, R.size) by rw [HND.out, if_neg h0])
        clear HND
        go_wp2_with fail
        go_quiet (fail)
        go_wp2_with fail
        refine (put_any (σ := ⟨s, a, ln, d, op, out⟩) ⟨_, _, HV.out.keep (drew_below _ _ _)⟩ hol 4 tx).mono ?_
        rintro e w6 ⟨rfl, hx6, hb6⟩
        have HX6 := Lib.hid hx6
        have HB6 := Lib.hid ((HBW.out.trans (drew_below B _ nq)).trans hb6)
        have y1 := hx6.choose_spec.choose_spec.c.c1
        have g1 := hx6.choose_spec.choose_spec.c.f 1
        simp only at y1
        clear hx6 hb6 hlk
        go_wp2_with fail
        refine bodyPost_end (v := .tuple #[]) (by simp [results, Tryd.results38, go_sem]) rfl ⟨rfl, ?_, ?_⟩
        · rw [HND2.out]
          exact (HX6.out.setAt (a + R.size)).1
        · exact HB6.out.trans (HX6.out.setAt (a + R.size)).2
end Go.Proofs.YtcjomeghcihecaaDoor
