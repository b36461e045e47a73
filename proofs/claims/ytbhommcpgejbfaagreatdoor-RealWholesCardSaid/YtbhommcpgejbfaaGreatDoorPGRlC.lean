/- The document's order of floats: place, order, Cmp. The document's Cut: a float cut to a whole number, digit by digit. -/
import Derived.Test.YtbhommcpgejbfaaGreatDoorPGRlW
import Derived.Test.YtbhommcpgejbfaaGreatDoorPGWf
import Derived.Test.YtbhommcpgejbfaaGreatDoorPGWk
import Derived.LoopTactic
namespace Go.Proofs.YtbhommcpgejbfaaGreatDoor
section
open Go Go.ChangeShapes Go.WideShapes Go.ChangeAt Go.RowKit
set_option linter.unusedVariables false
set_option linter.unusedSimpArgs false
theorem place_i64 (b : Nat) : -9223372036854775808 < placeZ b ∧ placeZ b ≤ 9223372036854775807 := by
  unfold placeZ
  have e3 : fSG = 9223372036854775808 := rfl
  rw [e3]
  split <;> omega
end
section
open Go Go.ChangeShapes Go.WideShapes Go.ChangeAt Go.RowKit
set_option linter.unusedVariables false
set_option linter.unusedSimpArgs false
/-- What Cut answers of a finite number. -/
def CtPost (W : World) (b : Nat) (e : Ending) (w' : World) : Prop :=
  ∃ n p c ds, e = .returned (.tuple #[.agg #[.bool n, .slice p (List.length ds) c], .bool (lostB b)]) ∧ Rb w' (.slice p ds.length c) ds ∧ Sgn 10 n ds (trZ b) ∧ Below W.heap.size W w'
/-- What is left behind the halving. -/
structure CtE (b m : Nat) (e : Int) : Prop where
  eq : trV b = m * 2 ^ e.toNat
  lt : m < 9007199254740992
  hi : e ≤ 972
  lo : -1074 ≤ e
/-- While it is halved. -/
structure CtG (b j m : Nat) (e : Int) (l : Bool) : Prop where
  gm : m = manB b / 2 ^ j
  ge : e = exqB b + (j : Int)
  gl : l = decide (manB b % 2 ^ j ≠ 0)
  gj : 0 < j → e ≤ 0
theorem CtG.start (b : Nat) : CtG b 0 (manB b) (exqB b) false := ⟨by simp, by simp, by simp [Nat.mod_one], by omega⟩
theorem CtG.lt {b j m : Nat} {e : Int} {l : Bool} (h : CtG b j m e l) : m < 9007199254740992 := by
  have h1 := h.gm; have h2 := man_lt b; have h3 := Nat.div_le_self (manB b) (2 ^ j); omega
theorem CtG.hi {b j m : Nat} {e : Int} {l : Bool} (h : CtG b j m e l) : e ≤ 972 ∧ -1074 ≤ e := by
  have h1 := h.ge; have h2 := exq_lo b; have h3 := h.gj; omega
theorem CtG.step {b j m : Nat} {e : Int} {l : Bool} (h : CtG b j m e l) (he : e < 0) : CtG b (j + 1) (m / 2) (e + 1) (l || decide (m % 2 = 1)) := by
  obtain ⟨h1, h2⟩ := half_step (manB b) j
  exact ⟨by rw [h1, ← h.gm], by have := h.ge; omega, by rw [h2, ← h.gm, ← h.gl], fun _ => by omega⟩
theorem CtG.stop {b j m : Nat} {e : Int} {l : Bool} (h : CtG b j m e l) (he : ¬ (e < 0 ∧ 0 < m)) : CtE b m e ∧ l = lostB b := by
  obtain ⟨hi, lo⟩ := h.hi
  have hm := h.gm
  have hE := h.ge
  have hL := h.gl
  have hj := h.gj
  by_cases hx : 0 ≤ exqB b
  · have j0 : j = 0 := by omega
    subst j0
    have m0 : m = manB b := by simpa using hm
    refine ⟨⟨?_, h.lt, hi, lo⟩, by rw [hL, lost_up b hx]; simp [Nat.mod_one]⟩
    rw [tr_up b hx, m0, show e = exqB b by omega]
  · have hx' : exqB b < 0 := by omega
    have hjk : j ≤ (-exqB b).toNat := by omega
    by_cases he0 : e < 0
    · have m0 : m = 0 := by omega
      obtain ⟨a1, a2⟩ := half_end (manB b) j (-exqB b).toNat hjk (by rw [← hm]; exact m0)
      refine ⟨⟨?_, h.lt, hi, lo⟩, by rw [hL, lost_down b hx', a2]⟩
      rw [tr_down b hx', a1, m0, Nat.zero_mul]
    · have hk : (-exqB b).toNat = j := by omega
      refine ⟨⟨?_, h.lt, hi, lo⟩, by rw [hL, lost_down b hx', hk]⟩
      rw [tr_down b hx', hk, ← hm, show e.toNat = 0 by omega, Nat.pow_zero, Nat.mul_one]
/-- Doubled i times: a small number. -/
theorem CtE.small {b m : Nat} {e : Int} (h : CtE b m e) {i : Nat} (hi : i ≤ e.toNat) : Small ((m * 2 ^ i : Nat) : Int) := by
  have h1 := tr_small b
  have h2 : m * 2 ^ i ≤ trV b := by rw [h.eq]; exact Nat.mul_le_mul_left _ (Nat.pow_le_pow_right (by decide) hi)
  have h3 := h1.lt
  refine ⟨?_⟩
  rw [Int.natAbs_natCast] at h3 ⊢
  exact Int.lt_of_le_of_lt (Int.ofNat_le.2 h2) h3
theorem dbl (m i : Nat) : ((m * 2 ^ i : Nat) : Int) + ((m * 2 ^ i : Nat) : Int) = ((m * 2 ^ (i + 1) : Nat) : Int) := by
  rw [Nat.pow_succ, ← Nat.mul_assoc]; omega
/-- Two boxes and a number in one of them. -/
structure CtS (w wr : World) (B : Nat) (n : Bool) (p : Option Addr) (c : Nat) (ds : List Int) (z : Int) : Prop where
  below : Below w.heap.size w wr
  res : Box2 wr w.heap.size (.bool false) (.slice none 0 0)
  bx : Box2 wr B (.bool n) (.slice p ds.length c)
  rb : Rb wr (.slice p ds.length c) ds
  sg : Sgn 10 n ds z
  hB : w.heap.size < B
theorem CtS.keep {w wr w' : World} {B : Nat} {n : Bool} {p : Option Addr} {c : Nat} {ds : List Int} {z : Int} (h : CtS w wr B n p c ds z) (hb : Below wr.heap.size wr w') : CtS w w' B n p c ds z :=
  ⟨h.below.trans (hb.mono h.below.size), h.res.keep hb, h.bx.keep hb, h.rb.keep hb, h.sg, h.hB⟩
theorem CtS.put {w wr : World} {B : Nat} {n : Bool} {p : Option Addr} {c : Nat} {ds : List Int} {z : Int} (h : CtS w wr B n p c ds z) {m : Bool} {q : Option Addr} {k : Nat} {es : List Int} {y : Int} (hr : Rb wr (.slice q es.length k) es) (hs : Sgn 10 m es y) :
    CtS w ((wr.setCell ⟨B, 0, none⟩ (.bool m)).setCell ⟨B, 1, none⟩ (.slice q es.length k)) B m q k es y :=
  ⟨(h.below.setCell (Nat.le_of_lt h.hB) _).setCell (Nat.le_of_lt h.hB) _, h.res.set2 (Nat.ne_of_lt h.hB) _ _, h.bx.put _ _, hr.set2 h.bx _ _, hs, h.hB⟩
theorem Rb.set1 {w : World} {B : Nat} {a : Bool} {v : Value} {ws : List Int} (h : Rb w v ws) (h0 : w.cell? ⟨B, 0, none⟩ = some (.bool a)) (x : Value) : Rb (w.setCell ⟨B, 0, none⟩ x) v ws := by
  rcases h with h | ⟨b, off, cc, rfl, h1, h2, h3⟩
  · exact .inl h
  · refine .inr ⟨b, off, cc, rfl, h1, h2, fun i hi => ?_⟩
    have h4 := h3 i hi
    have e0 : (⟨B, 0, none⟩ : Addr) ≠ ⟨b, off + i, none⟩ := fun e => by rw [← e, h0] at h4; simp at h4
    exact (World.cell?_setCell_other _ _ _ _ e0).trans h4
theorem CtS.put0 {w wr : World} {B : Nat} {n : Bool} {p : Option Addr} {c : Nat} {ds : List Int} {z : Int} (h : CtS w wr B n p c ds z) {m : Bool} {y : Int} (hs : Sgn 10 m ds y) :
    CtS w (wr.setCell ⟨B, 0, none⟩ (.bool m)) B m p c ds y :=
  ⟨h.below.setCell (Nat.le_of_lt h.hB) _,
   ⟨(World.cell?_setCell_other _ _ _ _ (fun e => Nat.ne_of_lt h.hB (by injection e with e1 _; exact e1.symm))).trans h.res.c0, (World.cell?_setCell_other _ _ _ _ (fun e => Nat.ne_of_lt h.hB (by injection e with e1 _; exact e1.symm))).trans h.res.c1, by simp [h.res.f0], by simp [h.res.f1]⟩,
   ⟨World.cell?_setCell_same _ _ _ h.bx.c0, (World.cell?_setCell_other _ _ _ _ (by simp)).trans h.bx.c1, by simp [h.bx.f0], by simp [h.bx.f1]⟩,
   h.rb.set1 h.bx.c0 _, hs, h.hB⟩
theorem CtS.leave {w wr : World} {B : Nat} {n : Bool} {p : Option Addr} {c : Nat} {ds : List Int} {b : Nat} (h : CtS w wr B n p c ds (trZ b)) :
    Rb ((wr.setCell ⟨w.heap.size, 0, none⟩ (.bool n)).setCell ⟨w.heap.size, 1, none⟩ (.slice p ds.length c)) (.slice p ds.length c) ds ∧ Below w.heap.size w ((wr.setCell ⟨w.heap.size, 0, none⟩ (.bool n)).setCell ⟨w.heap.size, 1, none⟩ (.slice p ds.length c)) :=
  ⟨h.rb.set2 h.res _ _, (h.below.setCell (Nat.le_refl _) _).setCell (Nat.le_refl _) _⟩
set_option maxRecDepth 100000 in
set_option maxHeartbeats 4000000 in
theorem rcut_any (b : Nat) (hb : b < 18446744073709551616) (hn : nanB b = false) (hi : infB b = false) (w : World) :
    Calls Tryz.prog 34 #[.int .u64 (b : Int)] w (CtPost w b) := by
  have HPa := Lib.hid (fun W => rparts_any b hb W)
  have HBe := Lib.hid (fun W => below_anyB b hb W)
  have HG0 := Lib.hid (CtG.start b)
  have HZ := Lib.hid (show trZ b = if negB b = true then -((trV b : Nat) : Int) else ((trV b : Nat) : Int) from rfl)
  have hml := man_lt b
  have hel := exq_lo b
  obtain ⟨M, hM⟩ : ∃ M, manB b = M := ⟨_, rfl⟩
  obtain ⟨X, hX⟩ : ∃ X, exqB b = X := ⟨_, rfl⟩
  rw [hM] at HPa HG0 hml
  rw [hX] at HPa HG0 hel
  clear hM hX hn hi
  go_enter Tryz.func34, Tryz.ntmps34
  go_wp2_with (first | (go_at_call 58; (with_reducible refine (HPa.out _).mono ?_); rintro e w9 ⟨rfl, rfl⟩) | fail)
  obtain ⟨W1, hW1⟩ : ∃ x, w.alloc (.cells #[.bool false, .slice none 0 0] 50) = x := ⟨_, rfl⟩
  have HB1 := Lib.hid (show Below w.heap.size w W1 by rw [← hW1]; exact (Below.refl _ _).alloc (Nat.le_refl _) _)
  have HX1 := Lib.hid (show Box2 W1 w.heap.size (.bool false) (.slice none 0 0) by rw [← hW1]; exact Box2.new _ _ _ _ rfl)
  rw [hW1]
  clear hW1
  go_loopw [4, 5, 6] (fun s4 s5 s6 wr => ∃ (j m : Nat) (e : Int) (l : Bool), s4 = .int .u64 (m : Int) ∧ s5 = .int .i64 e ∧ s6 = .bool l ∧ CtG b j m e l ∧ W1 = wr) (fun s4 s5 s6 wr => (-(RowKit.intOf s5)).toNat)
  case atStart => exact ⟨0, M, X, false, rfl, rfl, rfl, HG0.out, rfl⟩
  case round =>
    obtain ⟨j, m, e, l, rfl, rfl, rfl, hG, rfl⟩ := hrel
    have HG := Lib.hid hG
    have hm := hG.lt
    obtain ⟨he1, he2⟩ := hG.hi
    clear hG
    by_cases hgo : e < 0 ∧ 0 < m
    · obtain ⟨hg1, hg2⟩ := hgo
      have HS := Lib.hid (HG.out.step hg1)
      cases l
      · simp only [Bool.false_or] at HS
        go_wp2_with fail
        exact ⟨⟨j + 1, m / 2, e + 1, decide (m % 2 = 1), by rw [Int.natCast_ediv]; rfl, rfl, by congr 1; rw [Bool.eq_iff_iff, beq_iff_eq, decide_eq_true_eq]; omega, HS.out, trivial⟩, by simp only [RowKit.intOf]; omega⟩
      · simp only [Bool.true_or] at HS
        go_wp2_with fail
        exact ⟨⟨j + 1, m / 2, e + 1, true, by rw [Int.natCast_ediv]; rfl, rfl, rfl, HS.out, trivial⟩, by simp only [RowKit.intOf]; omega⟩
    · obtain ⟨hv, hl⟩ := HG.out.stop hgo
      have HVv := Lib.hid hv
      have HLs := Lib.hid hl
      have HI := Lib.hid (i64_nat (n := m) (by omega))
      have hway : ¬ e < 0 ∨ (e < 0 ∧ ¬ 0 < m) := by omega
      clear hv hl hgo HG
      rcases hway with hw1 | ⟨hw1, hw2⟩
      · skip
        go_wp2_with fail
        refine (refint_any (m : Int) HI.out _).mono ?_
        rintro e3 w3 ⟨n3, u3, ds, rfl, hr3, hs3, hb3⟩
        obtain ⟨p3, c3, rfl, _, _, _⟩ := rb_form hr3
        have HB3 := Lib.hid (HB1.out.trans (hb3.mono HB1.out.size))
        have HX3 := Lib.hid (HX1.out.keep hb3)
        have HR3 := Lib.hid hr3
        have HS3 := Lib.hid hs3
        clear hr3 hs3 hb3
        go_upto_region 8 with fail
        obtain ⟨W4, hW4⟩ : ∃ x, w3.alloc (.cells #[.bool n3, .slice p3 ds.length c3] 50) = x := ⟨_, rfl⟩
        have hb4 : Below w3.heap.size w3 W4 := by rw [← hW4]; exact (Below.refl _ _).alloc (Nat.le_refl _) _
        have HS4 := Lib.hid (show CtS w W4 w3.heap.size n3 p3 c3 ds ((m * 2 ^ 0 : Nat) : Int) from
          ⟨HB3.out.trans (hb4.mono HB3.out.size), HX3.out.keep hb4, by rw [← hW4]; exact Box2.new _ _ _ _ rfl, HR3.out.keep hb4, by rw [Nat.pow_zero, Nat.mul_one]; exact HS3.out, HX3.out.lt⟩)
        rw [hW4]
        obtain ⟨B, hB⟩ : ∃ B, w3.heap.size = B := ⟨_, rfl⟩
        rw [hB] at HS4 ⊢
        clear hW4 hb4 hB HX3 HR3 HS3 HB3
        go_loopw [5] (fun s5 wr => ∃ (i : Nat) (n : Bool) (p : Option Addr) (c : Nat) (es : List Int), s5 = .int .i64 (e - (i : Int)) ∧ i ≤ e.toNat ∧ CtS w wr B n p c es ((m * 2 ^ i : Nat) : Int)) (fun s5 wr => (RowKit.intOf s5).toNat)
        case atStart => exact ⟨0, n3, p3, c3, ds, by simp, by omega, HS4.out⟩
        case round =>
          obtain ⟨i, n, p, c, es, rfl, hie, hC⟩ := hrel
          obtain ⟨w5, rfl⟩ : ∃ w5 : World, w5 = wr := ⟨_, rfl⟩
          have HC := Lib.hid hC
          have c0 := hC.bx.c0
          have c1 := hC.bx.c1
          have f0 := hC.bx.f0
          have f1 := hC.bx.f1
          have HSM := Lib.hid (HVv.out.small hie)
          have HLE := Lib.hid (HC.out.sg.fits.2 HSM.out)
          obtain ⟨y, hy⟩ : ∃ y : Int, e - (i : Int) = y := ⟨_, rfl⟩
          rw [hy]
          have hyl : -1074 ≤ y ∧ y ≤ 972 := by omega
          clear hC
          by_cases hgo : 0 < y ∧ 0 < m
          · obtain ⟨g1, g2⟩ := hgo
            have HY := Lib.hid (show y - 1 = e - ((i + 1 : Nat) : Int) by omega)
            have HI1 := Lib.hid (show i + 1 ≤ e.toNat by omega)
            clear hy hie
            go_wp2_with fail
            refine (plus_at HC.out.rb HC.out.rb HC.out.sg HC.out.sg (by have := HLE.out; omega) (by have := HLE.out; omega) (Below.refl w5.heap.size w5)).mono ?_
            rintro e6 w6 ⟨n6, p6, c6, fs, rfl, hr6, hs6, hb6, _⟩
            rw [dbl] at hs6
            have HC6 := Lib.hid (HC.out.keep hb6)
            have HC7 := Lib.hid (HC6.out.put hr6 hs6)
            clear c0 c1 f0 f1 hr6 hs6 hb6
            have c0 := HC6.out.bx.c0
            have c1 := HC6.out.bx.c1
            have f0 := HC6.out.bx.f0
            have f1 := HC6.out.bx.f1
            go_wp2_with fail
            exact ⟨⟨i + 1, n6, p6, c6, fs, by rw [HY.out], HI1.out, HC7.out⟩, by simp only [RowKit.intOf]; omega⟩
          · skip
            have HEQ := Lib.hid (show m * 2 ^ i = trV b by
              rw [HVv.out.eq]
              rcases Nat.eq_zero_or_pos m with h | h
              · rw [h, Nat.zero_mul, Nat.zero_mul]
              · rw [show i = e.toNat by omega])
            have hway2 : ¬ 0 < y ∨ (0 < y ∧ ¬ 0 < m) := by omega
            have HN := Lib.hid (show n = false by
              have h := HC.out.sg.neg_iff (by decide)
              rw [h, decide_eq_false_iff_not]; omega)
            obtain ⟨q, hq⟩ : ∃ q, decide (0 < es.length) = q := ⟨_, rfl⟩
            have hq2 : decide ((0 : Int) < (es.length : Int)) = q := by rw [← hq, decide_eq_decide]; omega
            have HQ := Lib.hid hq
            have HR0 := Lib.hid HC.out.res
            have d0 := HR0.out.c0
            have d1 := HR0.out.c1
            have k0 := HR0.out.f0
            have k1 := HR0.out.f1
            have hesl := HLE.out
            obtain ⟨ng, hng⟩ : ∃ ng, negB b = ng := ⟨_, rfl⟩
            rw [hng] at HBe HZ
            clear hy hgo hie hng hq
            cases ng
            · have HF := Lib.hid (HC.out.put0 (m := false) (y := trZ b) (by have h := HC.out.sg; rw [HN.out, HEQ.out] at h; rw [HZ.out]; exact h))
              rcases hway2 with hv1 | ⟨hv1, hv2⟩
              all_goals
                go_upto_region 12 with (first | (go_at_call 61; (with_reducible refine (HBe.out _).mono ?_); rintro e w9 ⟨rfl, rfl⟩) | fail)
                obtain ⟨W6, hW6⟩ : ∃ x, w5.setCell ⟨B, 0, none⟩ (.bool false) = x := ⟨_, rfl⟩
                rw [hW6] at HF ⊢
                clear c0 c1 f0 f1 d0 d1 k0 k1 hW6
                have c0 := HF.out.bx.c0
                have c1 := HF.out.bx.c1
                have d0 := HF.out.res.c0
                have d1 := HF.out.res.c1
                have k0 := HF.out.res.f0
                have k1 := HF.out.res.f1
                go_wp2_with fail
                have z2 := two_setW (x0 := .bool false) (x1 := .slice p es.length c) HF.out.res.c0 HF.out.res.c1
                refine bodyPost_ret (v := .tuple #[.agg #[.bool false, .slice p es.length c], .bool (lostB b)]) (by simp [results, Tryz.results34, go_sem, z2.1, z2.2, ← HLs.out]) rfl ⟨false, p, c, es, rfl, HF.out.leave.1, HF.out.sg, HF.out.leave.2⟩
            · have HF := Lib.hid (HC.out.put0 (m := q) (y := trZ b) (by have h := HC.out.sg; rw [HN.out, HEQ.out] at h; have h2 := h.turn (by decide); rw [HQ.out] at h2; rw [HZ.out]; simpa using h2))
              rcases hway2 with hv1 | ⟨hv1, hv2⟩
              all_goals
                go_upto_region 12 with (first | (go_at_call 61; (with_reducible refine (HBe.out _).mono ?_); rintro e w9 ⟨rfl, rfl⟩) | fail)
                (try rw [HQ.out])
                obtain ⟨W6, hW6⟩ : ∃ x, w5.setCell ⟨B, 0, none⟩ (.bool q) = x := ⟨_, rfl⟩
                rw [hW6] at HF ⊢
                clear c0 c1 f0 f1 d0 d1 k0 k1 hW6
                have c0 := HF.out.bx.c0
                have c1 := HF.out.bx.c1
                have d0 := HF.out.res.c0
                have d1 := HF.out.res.c1
                have k0 := HF.out.res.f0
                have k1 := HF.out.res.f1
                go_wp2_with fail
                have z2 := two_setW (x0 := .bool q) (x1 := .slice p es.length c) HF.out.res.c0 HF.out.res.c1
                refine bodyPost_ret (v := .tuple #[.agg #[.bool q, .slice p es.length c], .bool (lostB b)]) (by simp [results, Tryz.results34, go_sem, z2.1, z2.2, ← HLs.out]) rfl ⟨q, p, c, es, rfl, HF.out.leave.1, HF.out.sg, HF.out.leave.2⟩
      · skip
        go_wp2_with fail
        refine (refint_any (m : Int) HI.out _).mono ?_
        rintro e3 w3 ⟨n3, u3, ds, rfl, hr3, hs3, hb3⟩
        obtain ⟨p3, c3, rfl, _, _, _⟩ := rb_form hr3
        have HB3 := Lib.hid (HB1.out.trans (hb3.mono HB1.out.size))
        have HX3 := Lib.hid (HX1.out.keep hb3)
        have HR3 := Lib.hid hr3
        have HS3 := Lib.hid hs3
        clear hr3 hs3 hb3
        go_upto_region 8 with fail
        obtain ⟨W4, hW4⟩ : ∃ x, w3.alloc (.cells #[.bool n3, .slice p3 ds.length c3] 50) = x := ⟨_, rfl⟩
        have hb4 : Below w3.heap.size w3 W4 := by rw [← hW4]; exact (Below.refl _ _).alloc (Nat.le_refl _) _
        have HS4 := Lib.hid (show CtS w W4 w3.heap.size n3 p3 c3 ds ((m * 2 ^ 0 : Nat) : Int) from
          ⟨HB3.out.trans (hb4.mono HB3.out.size), HX3.out.keep hb4, by rw [← hW4]; exact Box2.new _ _ _ _ rfl, HR3.out.keep hb4, by rw [Nat.pow_zero, Nat.mul_one]; exact HS3.out, HX3.out.lt⟩)
        rw [hW4]
        obtain ⟨B, hB⟩ : ∃ B, w3.heap.size = B := ⟨_, rfl⟩
        rw [hB] at HS4 ⊢
        clear hW4 hb4 hB HX3 HR3 HS3 HB3
        go_loopw [5] (fun s5 wr => ∃ (i : Nat) (n : Bool) (p : Option Addr) (c : Nat) (es : List Int), s5 = .int .i64 (e - (i : Int)) ∧ i ≤ e.toNat ∧ CtS w wr B n p c es ((m * 2 ^ i : Nat) : Int)) (fun s5 wr => (RowKit.intOf s5).toNat)
        case atStart => exact ⟨0, n3, p3, c3, ds, by simp, by omega, HS4.out⟩
        case round =>
          obtain ⟨i, n, p, c, es, rfl, hie, hC⟩ := hrel
          obtain ⟨w5, rfl⟩ : ∃ w5 : World, w5 = wr := ⟨_, rfl⟩
          have HC := Lib.hid hC
          have c0 := hC.bx.c0
          have c1 := hC.bx.c1
          have f0 := hC.bx.f0
          have f1 := hC.bx.f1
          have HSM := Lib.hid (HVv.out.small hie)
          have HLE := Lib.hid (HC.out.sg.fits.2 HSM.out)
          obtain ⟨y, hy⟩ : ∃ y : Int, e - (i : Int) = y := ⟨_, rfl⟩
          rw [hy]
          have hyl : -1074 ≤ y ∧ y ≤ 972 := by omega
          clear hC
          have hgo : ¬ (0 < y ∧ 0 < m) := by omega
          have HEQ := Lib.hid (show m * 2 ^ i = trV b by
            rw [HVv.out.eq]
            rcases Nat.eq_zero_or_pos m with h | h
            · rw [h, Nat.zero_mul, Nat.zero_mul]
            · rw [show i = e.toNat by omega])
          have hway2 : ¬ 0 < y ∨ (0 < y ∧ ¬ 0 < m) := by omega
          have HN := Lib.hid (show n = false by
            have h := HC.out.sg.neg_iff (by decide)
            rw [h, decide_eq_false_iff_not]; omega)
          obtain ⟨q, hq⟩ : ∃ q, decide (0 < es.length) = q := ⟨_, rfl⟩
          have hq2 : decide ((0 : Int) < (es.length : Int)) = q := by rw [← hq, decide_eq_decide]; omega
          have HQ := Lib.hid hq
          have HR0 := Lib.hid HC.out.res
          have d0 := HR0.out.c0
          have d1 := HR0.out.c1
          have k0 := HR0.out.f0
          have k1 := HR0.out.f1
          have hesl := HLE.out
          obtain ⟨ng, hng⟩ : ∃ ng, negB b = ng := ⟨_, rfl⟩
          rw [hng] at HBe HZ
          clear hy hgo hie hng hq
          cases ng
          · have HF := Lib.hid (HC.out.put0 (m := false) (y := trZ b) (by have h := HC.out.sg; rw [HN.out, HEQ.out] at h; rw [HZ.out]; exact h))
            rcases hway2 with hv1 | ⟨hv1, hv2⟩
            all_goals
              go_upto_region 12 with (first | (go_at_call 61; (with_reducible refine (HBe.out _).mono ?_); rintro e w9 ⟨rfl, rfl⟩) | fail)
              obtain ⟨W6, hW6⟩ : ∃ x, w5.setCell ⟨B, 0, none⟩ (.bool false) = x := ⟨_, rfl⟩
              rw [hW6] at HF ⊢
              clear c0 c1 f0 f1 d0 d1 k0 k1 hW6
              have c0 := HF.out.bx.c0
              have c1 := HF.out.bx.c1
              have d0 := HF.out.res.c0
              have d1 := HF.out.res.c1
              have k0 := HF.out.res.f0
              have k1 := HF.out.res.f1
              go_wp2_with fail
              have z2 := two_setW (x0 := .bool false) (x1 := .slice p es.length c) HF.out.res.c0 HF.out.res.c1
              refine bodyPost_ret (v := .tuple #[.agg #[.bool false, .slice p es.length c], .bool (lostB b)]) (by simp [results, Tryz.results34, go_sem, z2.1, z2.2, ← HLs.out]) rfl ⟨false, p, c, es, rfl, HF.out.leave.1, HF.out.sg, HF.out.leave.2⟩
          · have HF := Lib.hid (HC.out.put0 (m := q) (y := trZ b) (by have h := HC.out.sg; rw [HN.out, HEQ.out] at h; have h2 := h.turn (by decide); rw [HQ.out] at h2; rw [HZ.out]; simpa using h2))
            rcases hway2 with hv1 | ⟨hv1, hv2⟩
            all_goals
              go_upto_region 12 with (first | (go_at_call 61; (with_reducible refine (HBe.out _).mono ?_); rintro e w9 ⟨rfl, rfl⟩) | fail)
              (try rw [HQ.out])
              obtain ⟨W6, hW6⟩ : ∃ x, w5.setCell ⟨B, 0, none⟩ (.bool q) = x := ⟨_, rfl⟩
              rw [hW6] at HF ⊢
              clear c0 c1 f0 f1 d0 d1 k0 k1 hW6
              have c0 := HF.out.bx.c0
              have c1 := HF.out.bx.c1
              have d0 := HF.out.res.c0
              have d1 := HF.out.res.c1
              have k0 := HF.out.res.f0
              have k1 := HF.out.res.f1
              go_wp2_with fail
              have z2 := two_setW (x0 := .bool q) (x1 := .slice p es.length c) HF.out.res.c0 HF.out.res.c1
              refine bodyPost_ret (v := .tuple #[.agg #[.bool q, .slice p es.length c], .bool (lostB b)]) (by simp [results, Tryz.results34, go_sem, z2.1, z2.2, ← HLs.out]) rfl ⟨q, p, c, es, rfl, HF.out.leave.1, HF.out.sg, HF.out.leave.2⟩
end
end Go.Proofs.YtbhommcpgejbfaaGreatDoor
