/- strconv's decimal: set at a numeral. strconv's decimal: set at a numeral, walked. -/
import Derived.Test.YtpebnofjcodikaaGreatDoorPGPfZ
import Derived.StillTailTactics
namespace Go.Proofs.YtpebnofjcodikaaGreatDoor
section
open Go Go.ChangeShapes Go.WideShapes Go.RowKit Go.PlainAid
set_option linter.unusedVariables false
set_option linter.unusedSimpArgs false
/-- A byte of a numeral taken into a decimal. -/
def sfS (c : Int) (x : DS) : DS :=
  if c = 46 then { x with dp := (x.n : Int) }
  else if c = 48 ∧ x.n = 0 then { x with dp := x.dp - 1 }
  else if x.n < 800 then { x with V := x.V * 10 + (c - 48).toNat, n := x.n + 1 }
  else { x with tr := x.tr || decide (c ≠ 48) }
def sfN (s : ByteArray) : Nat → DS
  | 0 => ⟨0, 0, 0, false⟩
  | i + 1 => sfS (bt s i) (sfN s i)
structure SOk (x : DS) (i : Nat) : Prop where
  n8 : x.n ≤ 800
  ni : x.n ≤ i
  hi : x.V < 10 ^ x.n
  lo : 1 ≤ x.n → 10 ^ (x.n - 1) ≤ x.V
  d : -(i : Int) ≤ x.dp ∧ x.dp ≤ (i : Int)
theorem SOk.start (s : ByteArray) : SOk (sfN s 0) 0 := ⟨(show 0 ≤ 800 by decide), Nat.le_refl _, (show 0 < 10 ^ 0 by decide), fun h => absurd h (show ¬ 1 ≤ 0 by decide), (show -((0 : Nat) : Int) ≤ 0 ∧ (0 : Int) ≤ ((0 : Nat) : Int) by decide)⟩
theorem SOk.step {c : Int} {x : DS} {i : Nat} (h : SOk x i) (hc : c = 46 ∨ (48 ≤ c ∧ c ≤ 57)) : SOk (sfS c x) (i + 1) := by
  obtain ⟨h1, h2, h3, h4, h5⟩ := h
  unfold sfS
  by_cases c1 : c = 46
  · rw [if_pos c1]; exact ⟨h1, by simp only; omega, h3, h4, by simp only; omega⟩
  · rw [if_neg c1]
    by_cases c2 : c = 48 ∧ x.n = 0
    · rw [if_pos c2]; exact ⟨h1, by simp only; omega, h3, h4, by simp only; omega⟩
    · rw [if_neg c2]
      by_cases c3 : x.n < 800
      · rw [if_pos c3]
        refine ⟨by simp only; omega, by simp only; omega, ?_, fun _ => ?_, by simp only; omega⟩
        · simp only [Nat.pow_succ]; omega
        · simp only [Nat.add_sub_cancel]
          by_cases h0 : x.n = 0
          · have e := h3
            rw [h0] at e ⊢
            simp only [Nat.pow_zero] at e ⊢
            omega
          · have e := h4 (by omega)
            rw [show x.n = (x.n - 1) + 1 by omega, Nat.pow_succ]
            omega
      · rw [if_neg c3]; exact ⟨h1, by simp only; omega, h3, h4, by simp only; omega⟩
theorem sf_ok {s : ByteArray} {a p q : Nat} (h : Nml s a p q) : ∀ i, i ≤ p → SOk (sfN s i) i := by
  intro i
  induction i with
  | zero => intro _; exact SOk.start s
  | succ i ih => intro hi; exact (ih (by omega)).step (h.byte (by omega))
/-- The decimal of a numeral. -/
def sfZ (s : ByteArray) (a p q : Nat) : DS := { sfN s p with dp := (if a < p then (sfN s p).dp else ((sfN s p).n : Int)) + exZ s p q }
theorem sfZ_nrm {s : ByteArray} {a p q : Nat} (h : Nml s a p q) : (sfZ s a p q).n = 0 ∨ Nrm (sfZ s a p q) := by
  have hk := sf_ok h p (Nat.le_refl _)
  by_cases h0 : (sfN s p).n = 0
  · exact .inl h0
  · exact .inr ⟨(show 1 ≤ (sfN s p).n by omega), hk.n8, hk.hi, hk.lo (by omega)⟩
/-- A digit put behind the others. -/
theorem DM.put {w : World} {b V n d : Nat} {dp : Int} {tr ng : Bool} (h : DM w b ⟨V, n, dp, tr⟩ ng) (hn : n < 800) (hd : d ≤ 9) :
    DM ((w.setCell ⟨b, n, none⟩ (.int .u8 ((48 + d : Nat) : Int))).setCell ⟨b, 800, none⟩ (.int .i64 ((n + 1 : Nat) : Int))) b ⟨V * 10 + d, n + 1, dp, tr⟩ ng := by
  obtain ⟨g, hD, hg⟩ := h.ex
  refine ⟨updG g n (48 + d), (hD.setD hn (by omega)).setN (n + 1), fun i hi => ?_⟩
  simp only at hi hg ⊢
  unfold updG
  by_cases hin : i = n
  · rw [if_pos hin, hin, last_dg]; omega
  · rw [if_neg hin, hg i (by omega), ← pre_dg (V := V * 10 + d) (by omega)]
    congr 2; omega
theorem DM.setP {w : World} {b : Nat} {x : DS} {ng : Bool} (h : DM w b x ng) (m : Int) : DM (w.setCell ⟨b, 801, none⟩ (.int .i64 m)) b { x with dp := m } ng := by
  obtain ⟨g, hD, hg⟩ := h.ex
  exact ⟨g, hD.setP m, hg⟩
theorem DM.setT {w : World} {b : Nat} {x : DS} {ng : Bool} (h : DM w b x ng) (m : Bool) : DM (w.setCell ⟨b, 803, none⟩ (.bool m)) b { x with tr := m } ng := by
  obtain ⟨g, hD, hg⟩ := h.ex
  exact ⟨g, hD.setT m, hg⟩
end
section
open Go Go.ChangeShapes Go.WideShapes Go.RowKit Go.PlainAid
set_option linter.unusedVariables false
set_option linter.unusedSimpArgs false
theorem DB.setG {w : World} {b : Nat} {g : Nat → Nat} {n : Nat} {dp : Int} {ng tr : Bool} (h : DB w b g n dp ng tr) (m : Bool) :
    DB (w.setCell ⟨b, 802, none⟩ (.bool m)) b g n dp m tr := by
  have ne : ∀ j, j ≠ 802 → (⟨b, 802, none⟩ : Addr) ≠ ⟨b, j, none⟩ := fun j hj e => by injection e with _ e2; exact hj e2.symm
  exact ⟨fun j hj => (World.cell?_setCell_other _ _ _ _ (ne j (by omega))).trans (h.c j hj), h.l, fun j hj => by simp [h.f j hj], (World.cell?_setCell_other _ _ _ _ (ne _ (by omega))).trans h.cn,
    (World.cell?_setCell_other _ _ _ _ (ne _ (by omega))).trans h.cd, World.cell?_setCell_same _ _ _ h.cg, (World.cell?_setCell_other _ _ _ _ (ne _ (by omega))).trans h.ct⟩
set_option maxRecDepth 100000 in
set_option maxHeartbeats 4000000 in
theorem set_any (b : Nat) (s : ByteArray) (a p q : Nat) (h : Nml s a p q) (w : World) (hM : DM w b ⟨0, 0, 0, false⟩ false) :
    Calls Tryz.prog 230 #[.pointer (some ⟨b, 0, none⟩), .string s] w fun e w' => e = .returned (.bool true) ∧ DM w' b (sfZ s a p q) false ∧ Below b w w' := by
  have hb := get_bt s
  have HN := Lib.hid h
  have hsz := h.sz
  have hpz := h.pz
  have hap := h.ap
  have ha1 := h.a1
  have hszI : ((s.size : Nat) : Int) ≤ 1000 := by omega
  have h0 := h.d1 0 (by omega)
  have hz : 0 < s.size := by omega
  have hzN : ¬ s.size = 0 := by omega
  have hzB : (s.size == 0) = false := beq_eq_false_iff_ne.2 hzN
  obtain ⟨c0, hc0⟩ : ∃ c0, bt s 0 = c0 := ⟨_, rfl⟩
  rw [hc0] at h0
  have hbz : ((s[0]'hz).toNat : Int) = c0 := by rw [hb 0 hz]; exact hc0
  have n1 : (c0 == 43) = false := beq_eq_false_iff_ne.2 (by omega)
  have n2 : (c0 == 45) = false := beq_eq_false_iff_ne.2 (by omega)
  have HB := Lib.hid hb
  have HC0 := Lib.hid hc0
  obtain ⟨g, hD, hg⟩ := hM.ex
  have cg := hD.cg
  have ct := hD.ct
  have fg := hD.f 802 (by omega)
  have ft := hD.f 803 (by omega)
  obtain ⟨W1, hW1⟩ : ∃ W1, (w.setCell ⟨b, 802, none⟩ (.bool false)).setCell ⟨b, 803, none⟩ (.bool false) = W1 := ⟨_, rfl⟩
  have HW1 := Lib.hid hW1
  have HD := Lib.hid hD
  have HG := Lib.hid hg
  clear h hb hc0 hM hD hg hW1
  go_enter Tryz.func230, Tryz.ntmps230
  go_upto_block 1 with fail
  have HM1 := Lib.hid (show DM W1 b (sfN s 0) false by rw [← HW1.out]; exact ⟨g, ((HD.out.setG false).setT false), HG.out⟩)
  have HX1 := Lib.hid (show Below b w W1 by rw [← HW1.out]; exact ((Below.refl b w).setCell (p := ⟨b, 802, none⟩) (Nat.le_refl _) _).setCell (p := ⟨b, 803, none⟩) (Nat.le_refl _) _)
  rw [HW1.out]
  clear cg ct fg ft HW1 HD HG
  go_cut [5, 6, 7] from 34 to 116 (fun s5 s6 s7 wx => s5 = .int .i64 (p : Int) ∧ s6 = .bool (decide (a < p)) ∧ s7 = .bool true ∧ DM wx b (sfN s p) false ∧ Below b w wx)
  case first =>
    go_wp2_with fail
    go_loopw [5, 6, 7] (fun s5 s6 s7 wr => ∃ i : Nat, s5 = .int .i64 (i : Int) ∧ s6 = .bool (decide (a < i)) ∧ s7 = .bool (decide (0 < i)) ∧ DM wr b (sfN s i) false ∧ Below b w wr ∧ i ≤ p) (fun s5 s6 s7 wr => (1001 - RowKit.intOf s5).toNat)
    case atStart => exact ⟨0, rfl, rfl, rfl, HM1.out, HX1.out, by omega⟩
    case round =>
      obtain ⟨i, rfl, rfl, rfl, hMi, hXi, hip⟩ := hrel
      clear HM1 HX1
      have hq := sf_ok HN.out i hip
      have HXi := Lib.hid hXi
      clear hXi
      by_cases hlt : i < p
      · have hby := HN.out.byte hlt
        have hst : sfN s (i + 1) = sfS (bt s i) (sfN s i) := rfl
        obtain ⟨x, hx⟩ : ∃ x, sfN s i = x := ⟨_, rfl⟩
        obtain ⟨c, hc⟩ : ∃ c, bt s i = c := ⟨_, rfl⟩
        have hbi : ((s[i]'(by omega)).toNat : Int) = c := by rw [HB.out i (by omega)]; exact hc
        rw [hx] at hq hst hMi
        rw [hc] at hby hst
        obtain ⟨V, n, dp, tr⟩ := x
        obtain ⟨q1, q2, q3, q4, q5⟩ := hq
        simp only at q1 q2 q3 q4 q5
        obtain ⟨q5, q6⟩ := q5
        obtain ⟨gi, hDi, hgi⟩ := hMi.ex
        simp only at hDi hgi
        have cn := hDi.cn
        have cd := hDi.cd
        have hizI : (i : Int) < ((s.size : Nat) : Int) := by omega
        have hiz : i < s.size := by omega
        have HST := Lib.hid hst
        have HCC := Lib.hid hc
        have HMi := Lib.hid hMi
        have hmc : 46 ≤ c ∧ c ≤ 57 := by omega
        obtain ⟨hm1, hm2⟩ := hmc
        have z1 : (c == 95) = false := beq_eq_false_iff_ne.2 (by omega)
        clear hst hx hc hMi hgi
        by_cases c46 : c = 46
        · have hia : i = a := by
            have hcc := HCC.out
            by_cases h1 : i < a
            · have := HN.out.d1 i h1; omega
            · by_cases h2 : i = a
              · exact h2
              · have := HN.out.d2 i (by omega) hlt; omega
          have hdf : decide (a < i) = false := decide_eq_false (by omega)
          have hi0 : decide (0 < i) = true := decide_eq_true (by omega)
          have hE := Lib.hid (show sfN s (i + 1) = ⟨V, n, (n : Int), tr⟩ by rw [HST.out]; unfold sfS; rw [if_pos c46])
          have f1 := hDi.f 801 (by omega)
          have HDT := Lib.hid (show decide (a < i + 1) = true from decide_eq_true (by omega))
          have HD2 := Lib.hid (HMi.out.setP (n : Int))
          have HX2 := Lib.hid (HXi.out.setCell (p := ⟨b, 801, none⟩) (Nat.le_refl _) (.int .i64 (n : Int)))
          subst c46
          rw [hdf, hi0]
          clear hby hia q4 hDi hdf hi0
          go_wp2_with fail
          exact ⟨⟨i + 1, by congr 1, by rw [HDT.out], by simp, by rw [hE.out]; exact HD2.out, HX2.out, by omega⟩, by simp only [RowKit.intOf]; omega⟩
        · obtain ⟨d, hd⟩ : ∃ d : Nat, c = 48 + (d : Int) := ⟨(c - 48).toNat, by omega⟩
          have hd9 : d ≤ 9 := by omega
          have h46 : (c == 46) = false := beq_eq_false_iff_ne.2 c46
          have h48 : (48 : Int) ≤ c := by omega
          have hia : i ≠ a := by
            intro hc; subst hc; have := (HN.out.pt hlt).1; have := HCC.out; omega
          have HDT := Lib.hid (show decide (a < i + 1) = decide (a < i) by rw [decide_eq_decide]; omega)
          obtain ⟨dt, hdt⟩ : ∃ dt, decide (a < i) = dt := ⟨_, rfl⟩
          rw [hdt] at HDT ⊢
          by_cases c48 : c = 48 ∧ n = 0
          · obtain ⟨c48a, c48b⟩ := c48
            have hE := Lib.hid (show sfN s (i + 1) = ⟨V, n, dp - 1, tr⟩ by rw [HST.out]; unfold sfS; rw [if_neg c46, if_pos ⟨c48a, c48b⟩])
            have H1 := Lib.hid (show IntKind.i64.wrap (dp - 1) = dp - 1 from IntWalk.i64_in _ (by omega))
            have f1 := hDi.f 801 (by omega)
            have HD2 := Lib.hid (HMi.out.setP (dp - 1))
            have HX2 := Lib.hid (HXi.out.setCell (p := ⟨b, 801, none⟩) (Nat.le_refl _) (.int .i64 (dp - 1)))
            subst c48a
            subst c48b
            clear hby q4 c46 hd h46 hia hdt hDi
            go_upto_region 23 with fail
            have h1 := H1.out
            go_wp2_with fail
            exact ⟨⟨i + 1, by congr 1, by rw [HDT.out], by simp, by rw [hE.out]; exact HD2.out, HX2.out, by omega⟩, by simp only [RowKit.intOf]; omega⟩
          · have hndc : (c ≠ 48) ∨ (c = 48 ∧ n ≠ 0) := by omega
            by_cases c8 : n < 800
            · have hE := Lib.hid (show sfN s (i + 1) = ⟨V * 10 + d, n + 1, dp, tr⟩ by rw [HST.out]; unfold sfS; rw [if_neg c46, if_neg c48, if_pos c8, show (c - 48).toNat = d by omega])
              have f1 := hDi.f n (by omega)
              have f8 := hDi.f 800 (by omega)
              have cx := hDi.c n c8
              have c8I : (n : Int) < 800 := by omega
              have HD2 := Lib.hid (fun Q => (HMi.out.drew Q).put (d := d) c8 hd9)
              rw [show ((48 + d : Nat) : Int) = c by omega] at HD2
              have HX2 := Lib.hid (fun Q => ((HXi.out.trans (below_drewN (Below.refl _ _) Q)).setCell (p := ⟨b, n, none⟩) (Nat.le_refl _) (.int .u8 c)).setCell (p := ⟨b, 800, none⟩) (Nat.le_refl _) (.int .i64 ((n + 1 : Nat) : Int)))
              have hnI : (n : Int) ≤ 1000 := by omega
              have hc0' : (0 : Int) ≤ c := by omega
              have HDi := Lib.hid hDi
              clear hby q4 c46 hd c48 hia hdt hDi c8
              rcases hndc with h48n | ⟨h48n, hnd0⟩
              · have z2 : (c == 48) = false := beq_eq_false_iff_ne.2 h48n
                go_wp2_with fail
                go_still_tail 11, (by kernel_rfl)
                change wpList _ _ _ _ _ (wr.drewN 1)
                obtain ⟨W2, hW2⟩ : ∃ W2, wr.drewN 1 = W2 := ⟨_, rfl⟩
                have kD := HDi.out.drew 1
                have kM := HD2.out 1
                have kX := HX2.out 1
                rw [hW2] at kD kM kX ⊢
                have cn2 := kD.cn
                have cx2 := kD.c n (by omega)
                have f12 := kD.f n (by omega)
                have f82 := kD.f 800 (by omega)
                have HKM := Lib.hid kM
                have HKX := Lib.hid kX
                have hnz : ¬ n = 800 := by omega
                clear kD kM kX hW2 cn cx f1 f8 cd
                go_wp2_with fail
                exact ⟨⟨i + 1, by congr 1, by rw [HDT.out], by simp, by rw [hE.out]; exact HKM.out, HKX.out, by omega⟩, by simp only [RowKit.intOf]; omega⟩
              · have z2 : ((n : Int) == 0) = false := by simp; omega
                subst h48n
                go_wp2_with fail
                go_still_tail 11, (by kernel_rfl)
                change wpList _ _ _ _ _ (wr.drewN 1)
                obtain ⟨W2, hW2⟩ : ∃ W2, wr.drewN 1 = W2 := ⟨_, rfl⟩
                have kD := HDi.out.drew 1
                have kM := HD2.out 1
                have kX := HX2.out 1
                rw [hW2] at kD kM kX ⊢
                have cn2 := kD.cn
                have cx2 := kD.c n (by omega)
                have f12 := kD.f n (by omega)
                have f82 := kD.f 800 (by omega)
                have HKM := Lib.hid kM
                have HKX := Lib.hid kX
                have hnz : ¬ n = 800 := by omega
                clear kD kM kX hW2 cn cx f1 f8 cd
                go_wp2_with fail
                exact ⟨⟨i + 1, by congr 1, by rw [HDT.out], by simp, by rw [hE.out]; exact HKM.out, HKX.out, by omega⟩, by simp only [RowKit.intOf]; omega⟩
            · have hE := Lib.hid (show sfN s (i + 1) = ⟨V, n, dp, tr || decide (c ≠ 48)⟩ by rw [HST.out]; unfold sfS; rw [if_neg c46, if_neg c48, if_neg c8])
              have c8I : ¬ (n : Int) < 800 := by omega
              have f1 := hDi.f 803 (by omega)
              have ct := hDi.ct
              clear hby q4 c46 hd c48 hia hdt hDi
              rcases hndc with h48n | ⟨h48n, hnd0⟩
              · have z2 : (c == 48) = false := beq_eq_false_iff_ne.2 h48n
                have HT := Lib.hid (show (tr || decide (c ≠ 48)) = true by rw [decide_eq_true h48n, Bool.or_true])
                have HD2 := Lib.hid (HMi.out.setT true)
                have HX2 := Lib.hid (HXi.out.setCell (p := ⟨b, 803, none⟩) (Nat.le_refl _) (.bool true))
                go_wp2_with fail
                exact ⟨⟨i + 1, by congr 1, by rw [HDT.out], by simp, by rw [hE.out, HT.out]; exact HD2.out, HX2.out, by omega⟩, by simp only [RowKit.intOf]; omega⟩
              · have z2 : ((n : Int) == 0) = false := by simp; omega
                have HT := Lib.hid (show (tr || decide (c ≠ 48)) = tr by rw [h48n]; simp)
                subst h48n
                go_wp2_with fail
                exact ⟨⟨i + 1, by congr 1, by rw [HDT.out], by simp, by rw [hE.out, HT.out]; exact HMi.out, HXi.out, by omega⟩, by simp only [RowKit.intOf]; omega⟩
      · obtain rfl : i = p := by omega
        have hi0 : decide (0 < i) = true := decide_eq_true (by omega)
        rw [hi0]
        have HMi := Lib.hid hMi
        clear hq hlt hi0 hMi
        by_cases hz : i < s.size
        · have h101 := (HN.out.ex hz).1
          have hizI : (i : Int) < ((s.size : Nat) : Int) := by omega
          have hbi : ((s[i]'hz).toNat : Int) = 101 := by rw [HB.out i hz]; exact h101
          clear h101
          go_wp2_with fail
          go_meet
          exact ⟨rfl, rfl, rfl, HMi.out, HXi.out⟩
        · have hizI : ¬ (i : Int) < ((s.size : Nat) : Int) := by omega
          go_wp2_with fail
          go_meet
          exact ⟨rfl, rfl, rfl, HMi.out, HXi.out⟩
  case rest =>
    obtain ⟨rfl, rfl, rfl, hMp, hXp⟩ := hcut
    have hq := sf_ok HN.out p (Nat.le_refl _)
    obtain ⟨x, hx⟩ : ∃ x, sfN s p = x := ⟨_, rfl⟩
    have HZZ := Lib.hid (show sfZ s a p q = { x with dp := (if a < p then x.dp else (x.n : Int)) + exZ s p q } by unfold sfZ; rw [hx])
    have HX := Lib.hid hx
    rw [hx] at hq hMp
    obtain ⟨V, n, dp, tr⟩ := x
    obtain ⟨q1, q2, q3, q4, q5, q6⟩ := hq
    simp only at q1 q2 q3 q4 q5 q6 HZZ
    obtain ⟨D, hD⟩ : ∃ D : Int, (if a < p then dp else ((n : Nat) : Int)) = D := ⟨_, rfl⟩
    rw [hD] at HZZ
    have hDb : -1000 ≤ D ∧ D ≤ 1000 := by rw [← hD]; split <;> omega
    obtain ⟨hD1, hD2⟩ := hDb
    have HDD := Lib.hid hD
    obtain ⟨gi, hDi, _⟩ := hMp.ex
    simp only at hDi
    have cn := hDi.cn
    have cd := hDi.cd
    have f1 := hDi.f 801 (by omega)
    have HMp := Lib.hid hMp
    have HXp := Lib.hid hXp
    obtain ⟨dt, hdt⟩ : ∃ dt, decide (a < p) = dt := ⟨_, rfl⟩
    rw [hdt]
    have HDT := Lib.hid hdt
    clear hx hD q4 hMp hXp hDi hdt HM1 HX1
    go_upto_if 118 with fail
    go_upto_if 120 with fail
    go_cut [119] from 119 to 133 (fun s119 wx => DM wx b ⟨V, n, D, tr⟩ false ∧ Below b w wx)
    case first =>
      cases dt with
      | true =>
        have hap2 : a < p := by simpa using HDT.out
        have hd := Lib.hid (show dp = D by have := HDD.out; rw [if_pos hap2] at this; exact this)
        clear hap2
        go_wp2_with fail
        go_meet
        exact ⟨by rw [← hd.out]; exact HMp.out, HXp.out⟩
      | false =>
        have hap2 : ¬ a < p := by simpa using HDT.out
        have hd := Lib.hid (show (n : Int) = D by have := HDD.out; rw [if_neg hap2] at this; exact this)
        have HD2 := Lib.hid (HMp.out.setP (n : Int))
        have HX2 := Lib.hid (HXp.out.setCell (p := ⟨b, 801, none⟩) (Nat.le_refl _) (.int .i64 (n : Int)))
        clear hap2
        go_wp2_with fail
        go_meet
        exact ⟨by rw [← hd.out]; exact HD2.out, HX2.out⟩
    case rest =>
      obtain ⟨hM5, hX5⟩ := hcut
      have HM5 := Lib.hid hM5
      have HX5 := Lib.hid hX5
      clear hM5 hX5 cn cd f1 HMp HXp
      go_upto_region 32 with fail
      go_cut [138] from 128 to 138 (fun s138 wx => s138 = .bool (decide (p < s.size)) ∧ wc = wx)
      case first =>
        by_cases hz : p < s.size
        · have e1 := (HN.out.ex hz).1
          have hizI : (p : Int) < ((s.size : Nat) : Int) := by omega
          have hbi : ((s[p]'hz).toNat : Int) = 101 := by rw [HB.out p hz]; exact e1
          have HL := Lib.hid (lower_any 101 (by omega))
          have HT := Lib.hid (decide_eq_true hz)
          clear e1
          go_wp2_with (first
            | (go_at_call 128; (with_reducible refine (HL.out _).mono ?_); rintro e w9 ⟨rfl, rfl⟩)
            | fail)
          go_meet
          exact ⟨by rw [HT.out], rfl⟩
        · have hizI : ¬ (p : Int) < ((s.size : Nat) : Int) := by omega
          have HT := Lib.hid (decide_eq_false hz)
          go_wp2_with fail
          go_meet
          exact ⟨by rw [HT.out], rfl⟩
      case rest =>
       obtain ⟨rfl, rfl⟩ := hcut
       go_upto_if 138 with fail
       go_cut [5, 8, 9] from 138 to 209 (fun s5 s8 s9 wx => s5 = .int .i64 ((s.size : Nat) : Int) ∧ DM wx b (sfZ s a p q) false ∧ Below b w wx)
       case first =>
        by_cases hz : p < s.size
        · have hzB2 : decide (p < s.size) = true := decide_eq_true hz
          have h101 := HN.out.ex hz
          obtain ⟨e1, e2, e3⟩ := h101
          have hizI : (p : Int) < ((s.size : Nat) : Int) := by omega
          obtain ⟨c1, hc1⟩ : ∃ c1, bt s (p + 1) = c1 := ⟨_, rfl⟩
          have hp1 : p + 1 < s.size := by omega
          have hp1I : ¬ ((s.size : Nat) : Int) ≤ (p : Int) + 1 := by omega
          have hb1 : ((s[p + 1]'hp1).toNat : Int) = c1 := by rw [HB.out (p + 1) hp1]; exact hc1
          obtain ⟨sg, hsg⟩ : ∃ sg : Int, sg = if c1 = 45 then -1 else 1 := ⟨_, rfl⟩
          have hXZ : exZ s p q = ((exN s q (s.size - q) : Nat) : Int) * sg := by
            unfold exZ; rw [if_pos hz, hc1, hsg]
            by_cases h45 : c1 = 45
            · rw [if_pos h45, if_pos h45]; omega
            · rw [if_neg h45, if_neg h45]; omega
          have hsg2 : sg = 1 ∨ sg = -1 := by rw [hsg]; split <;> omega
          rw [hc1] at e3
          have HSG := Lib.hid hsg
          have HE3 := Lib.hid e3
          have HXZ := Lib.hid hXZ
          have hqz : q < s.size := e2
          have hpq : p < q := by omega
          have hqI : (q : Int) < ((s.size : Nat) : Int) := by omega
          have hex := Lib.hid (ex_lt (s := s) (q := q) (s.size - q) (fun i hi => HN.out.d3 (q + i) hz (by omega) (by omega)))
          have HD3 := Lib.hid (fun i (h1 : q ≤ i) (h2 : i < s.size) => HN.out.d3 i hz h1 h2)
          clear hc1 e3 e1 e2 hsg hXZ
          go_upto_block 4 with fail
          clear hzB2
          go_cut [5, 8] from 138 to 155 (fun s5 s8 wx => s5 = .int .i64 (q : Int) ∧ s8 = .int .i64 sg ∧ wc = wx)
          case first =>
            rcases HE3.out with ⟨hq, h43, h45⟩ | ⟨hq, h43 | h45⟩
            · have z1 : (c1 == 43) = false := beq_eq_false_iff_ne.2 h43
              have z2 : (c1 == 45) = false := beq_eq_false_iff_ne.2 h45
              have hs1 := Lib.hid (show sg = 1 by rw [HSG.out, if_neg h45])
              have hq2 := Lib.hid (show (p : Int) + 1 = (q : Int) by omega)
              clear hq h43 h45
              go_wp2_with fail
              go_meet
              exact ⟨by rw [← hq2.out], by rw [hs1.out], rfl⟩
            · have hs1 := Lib.hid (show sg = 1 by rw [HSG.out, if_neg (by omega)])
              have hq2 := Lib.hid (show (p : Int) + 1 + 1 = (q : Int) by omega)
              subst h43
              clear hq
              go_wp2_with fail
              go_meet
              exact ⟨by rw [← hq2.out], by rw [hs1.out], rfl⟩
            · have hs1 := Lib.hid (show sg = -1 by rw [HSG.out, if_pos h45])
              have hq2 := Lib.hid (show (p : Int) + 1 + 1 = (q : Int) by omega)
              subst h45
              clear hq
              go_wp2_with fail
              go_meet
              exact ⟨by rw [← hq2.out], by rw [hs1.out], rfl⟩
          case rest =>
            obtain ⟨rfl, rfl, rfl⟩ := hcut
            obtain ⟨c2, hc2⟩ : ∃ c2, bt s q = c2 := ⟨_, rfl⟩
            have hd2 := HD3.out q (Nat.le_refl _) hqz
            rw [hc2] at hd2
            have hb2 : ((s[q]'hqz).toNat : Int) = c2 := by rw [HB.out q hqz]; exact hc2
            have z1 : decide (c2 < 48) = false := decide_eq_false (by omega)
            have z2 : decide (57 < c2) = false := decide_eq_false (by omega)
            clear hc2 hd2 hb1
            go_upto_region 43 with fail
            clear z1 z2 hb2
            go_wp2_with fail
            go_loopw [5, 9] (fun s5 s9 wr => ∃ k : Nat, s5 = .int .i64 ((q + k : Nat) : Int) ∧ s9 = .int .i64 ((exN s q k : Nat) : Int) ∧ q + k ≤ s.size ∧ wc = wr) (fun s5 s9 wr => (1001 - RowKit.intOf s5).toNat)
            case atStart => exact ⟨0, by simp, rfl, by omega, rfl⟩
            case round =>
              obtain ⟨k, rfl, rfl, hk, rfl⟩ := hrel
              obtain ⟨Q, hQ⟩ : ∃ Q, q + k = Q := ⟨_, rfl⟩
              have HQ := Lib.hid hQ
              have hel := ex_lt (s := s) (q := q) k (fun i hi => HD3.out (q + i) (by omega) (by omega))
              have hst : exN s q (k + 1) = if exN s q k < 10000 then exN s q k * 10 + (bt s (q + k) - 48).toNat else exN s q k := rfl
              rw [hQ] at hk hst ⊢
              obtain ⟨e, he⟩ : ∃ e, exN s q k = e := ⟨_, rfl⟩
              rw [he] at hel hst ⊢
              by_cases hlt : Q < s.size
              · have hltI : (Q : Int) < ((s.size : Nat) : Int) := by omega
                have hd := HD3.out Q (by omega) hlt
                obtain ⟨c, hc⟩ : ∃ c, bt s Q = c := ⟨_, rfl⟩
                rw [hc] at hd hst
                have hbi : ((s[Q]'hlt).toNat : Int) = c := by rw [HB.out Q hlt]; exact hc
                have z1 : decide (48 ≤ c) = true := decide_eq_true (by omega)
                have z2 : decide (c ≤ 57) = true := decide_eq_true (by omega)
                have z3 : (c == 95) = false := beq_eq_false_iff_ne.2 (by omega)
                have HK := Lib.hid (show q + (k + 1) = Q + 1 by omega)
                have hs0 : (0 : Int) ≤ (e : Int) := by omega
                by_cases h4 : e < 10000
                · have h4I : (e : Int) < 10000 := by omega
                  rw [if_pos h4] at hst
                  obtain ⟨E2, hE2⟩ : ∃ E2, e * 10 + (c - 48).toNat = E2 := ⟨_, rfl⟩
                  rw [hE2] at hst
                  have HST := Lib.hid hst
                  have H1 := Lib.hid (show IntKind.i64.wrap ((e : Int) * 10 + c - 48) = (E2 : Int) by rw [IntWalk.i64_in _ (by omega)]; omega)
                  obtain ⟨hd1, hd2⟩ := hd
                  clear hE2
                  clear hst hel hQ he hc h4
                  go_upto_region 48 with fail
                  have h1 := H1.out
                  go_wp2_with fail
                  exact ⟨⟨k + 1, by rw [HK.out]; congr 1, by rw [HST.out], by have := HQ.out; omega, trivial⟩, by have := HQ.out; simp only [RowKit.intOf]; omega⟩
                · have h4I : ¬ (e : Int) < 10000 := by omega
                  rw [if_neg h4] at hst
                  have HST := Lib.hid hst
                  clear hst hel hQ he hc h4
                  go_wp2_with fail
                  exact ⟨⟨k + 1, by rw [HK.out]; congr 1, by rw [HST.out], by have := HQ.out; omega, trivial⟩, by have := HQ.out; simp only [RowKit.intOf]; omega⟩
              · have hltI : ¬ (Q : Int) < ((s.size : Nat) : Int) := by omega
                have HXE := Lib.hid (show exZ s p q = (e : Int) * sg by rw [HXZ.out, show s.size - q = k by omega, he])
                have hQz := Lib.hid (show (Q : Int) = ((s.size : Nat) : Int) by omega)
                obtain ⟨X, hX⟩ : ∃ X, (e : Int) * sg = X := ⟨_, rfl⟩
                have hXb : -100000 ≤ X ∧ X ≤ 100000 := by rw [← hX]; rcases hsg2 with h | h <;> rw [h] <;> omega
                have H1 := Lib.hid (show IntKind.i64.wrap ((e : Int) * sg) = X by rw [hX]; exact IntWalk.i64_in _ (by omega))
                have H2 := Lib.hid (show IntKind.i64.wrap (D + X) = D + exZ s p q by rw [IntWalk.i64_in _ (by omega), HXE.out, hX])
                clear hst hel hQ he hX hsg2 hXb
                go_upto_region 49 with fail
                obtain ⟨ZZ, hZZ⟩ : ∃ ZZ : Int, D + exZ s p q = ZZ := ⟨_, rfl⟩
                have HZ3 := HZZ
                rw [hZZ] at H2 HZ3
                obtain ⟨g5, hD5, _⟩ := HM5.out.ex
                have cd := hD5.cd
                have f1 := hD5.f 801 (by omega)
                simp only at cd
                have HD2 := Lib.hid (HM5.out.setP ZZ)
                have HX2 := Lib.hid (HX5.out.setCell (p := ⟨b, 801, none⟩) (Nat.le_refl _) (.int .i64 ZZ))
                clear hD5 hZZ
                have h1 := H1.out
                have h2 := H2.out
                go_wp2_with fail
                go_meet
                exact ⟨by rw [hQz.out], by rw [HZ3.out]; exact HD2.out, HX2.out⟩
        · have hizI : ¬ (p : Int) < ((s.size : Nat) : Int) := by omega
          have hpz2 := Lib.hid (show (p : Int) = ((s.size : Nat) : Int) by omega)
          have hXZ := Lib.hid (show sfZ s a p q = ⟨V, n, D, tr⟩ by rw [HZZ.out]; unfold exZ; rw [if_neg hz, Int.add_zero])
          have hzB2 : decide (p < s.size) = false := decide_eq_false hz
          clear hz
          go_wp2_with fail
          go_meet
          exact ⟨by rw [hpz2.out], by rw [hXZ.out]; exact HM5.out, HX5.out⟩
       case rest =>
        obtain ⟨rfl, hM6, hX6⟩ := hcut
        have HM6 := Lib.hid hM6
        have HX6 := Lib.hid hX6
        clear hM6 hX6
        go_wp2_with fail
        go_ret
        exact ⟨rfl, HM6.out, HX6.out⟩
end
end Go.Proofs.YtpebnofjcodikaaGreatDoor
