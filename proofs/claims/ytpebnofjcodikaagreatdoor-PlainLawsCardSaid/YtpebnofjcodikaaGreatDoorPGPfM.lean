/- strconv's decimal in memory; leftShift. strconv's decimal: trim. strconv's decimal: prefixIsLessThan. -/
import Derived.Test.YtpebnofjcodikaaGreatDoorPGPfA
import Derived.Test.YtpebnofjcodikaaGreatDoorPGRlU
import Derived.LoopTactic
import Derived.BigQuiet
import Derived.PlainAid
namespace Go.Proofs.YtpebnofjcodikaaGreatDoor
section
open Go Go.ChangeShapes Go.WideShapes Go.RowKit
set_option linter.unusedVariables false
set_option linter.unusedSimpArgs false
/-- Some bytes in a block's first 800 cells, the fields behind them. -/
structure DB (w : World) (b : Nat) (g : Nat → Nat) (n : Nat) (dp : Int) (ng tr : Bool) : Prop where
  c : ∀ i, i < 800 → w.cell? ⟨b, i, none⟩ = some (.int .u8 ((g i : Nat) : Int))
  l : ∀ i, g i < 256
  f : ∀ i, i < 804 → w.frozen? ⟨b, i, none⟩ = false
  cn : w.cell? ⟨b, 800, none⟩ = some (.int .i64 (n : Int))
  cd : w.cell? ⟨b, 801, none⟩ = some (.int .i64 dp)
  cg : w.cell? ⟨b, 802, none⟩ = some (.bool ng)
  ct : w.cell? ⟨b, 803, none⟩ = some (.bool tr)
/-- The bytes are the digits of a number. -/
def Dgs (g : Nat → Nat) (V n : Nat) : Prop := ∀ i, i < n → g i = 48 + dg V n i
def updG (g : Nat → Nat) (i v : Nat) : Nat → Nat := fun j => if j = i then v else g j
theorem DB.setD {w : World} {b : Nat} {g : Nat → Nat} {n : Nat} {dp : Int} {ng tr : Bool} (h : DB w b g n dp ng tr) {i v : Nat} (hi : i < 800) (hv : v < 256) :
    DB (w.setCell ⟨b, i, none⟩ (.int .u8 (v : Int))) b (updG g i v) n dp ng tr := by
  have ne : ∀ j, j ≠ i → (⟨b, i, none⟩ : Addr) ≠ ⟨b, j, none⟩ := fun j hj e => by injection e with _ e2; exact hj e2.symm
  refine ⟨fun j hj => ?_, fun j => ?_, fun j hj => by simp [h.f j hj], ?_, ?_, ?_, ?_⟩
  · unfold updG
    by_cases hji : j = i
    · subst hji; rw [if_pos rfl]; exact World.cell?_setCell_same _ _ _ (h.c j hj)
    · rw [if_neg hji]; exact (World.cell?_setCell_other _ _ _ _ (ne j hji)).trans (h.c j hj)
  · unfold updG; split
    · exact hv
    · exact h.l j
  · exact (World.cell?_setCell_other _ _ _ _ (ne _ (by omega))).trans h.cn
  · exact (World.cell?_setCell_other _ _ _ _ (ne _ (by omega))).trans h.cd
  · exact (World.cell?_setCell_other _ _ _ _ (ne _ (by omega))).trans h.cg
  · exact (World.cell?_setCell_other _ _ _ _ (ne _ (by omega))).trans h.ct
theorem DB.setN {w : World} {b : Nat} {g : Nat → Nat} {n : Nat} {dp : Int} {ng tr : Bool} (h : DB w b g n dp ng tr) (m : Nat) :
    DB (w.setCell ⟨b, 800, none⟩ (.int .i64 (m : Int))) b g m dp ng tr := by
  have ne : ∀ j, j ≠ 800 → (⟨b, 800, none⟩ : Addr) ≠ ⟨b, j, none⟩ := fun j hj e => by injection e with _ e2; exact hj e2.symm
  exact ⟨fun j hj => (World.cell?_setCell_other _ _ _ _ (ne j (by omega))).trans (h.c j hj), h.l, fun j hj => by simp [h.f j hj], World.cell?_setCell_same _ _ _ h.cn,
    (World.cell?_setCell_other _ _ _ _ (ne _ (by omega))).trans h.cd, (World.cell?_setCell_other _ _ _ _ (ne _ (by omega))).trans h.cg, (World.cell?_setCell_other _ _ _ _ (ne _ (by omega))).trans h.ct⟩
theorem DB.setP {w : World} {b : Nat} {g : Nat → Nat} {n : Nat} {dp : Int} {ng tr : Bool} (h : DB w b g n dp ng tr) (m : Int) :
    DB (w.setCell ⟨b, 801, none⟩ (.int .i64 m)) b g n m ng tr := by
  have ne : ∀ j, j ≠ 801 → (⟨b, 801, none⟩ : Addr) ≠ ⟨b, j, none⟩ := fun j hj e => by injection e with _ e2; exact hj e2.symm
  exact ⟨fun j hj => (World.cell?_setCell_other _ _ _ _ (ne j (by omega))).trans (h.c j hj), h.l, fun j hj => by simp [h.f j hj], (World.cell?_setCell_other _ _ _ _ (ne _ (by omega))).trans h.cn, World.cell?_setCell_same _ _ _ h.cd,
    (World.cell?_setCell_other _ _ _ _ (ne _ (by omega))).trans h.cg, (World.cell?_setCell_other _ _ _ _ (ne _ (by omega))).trans h.ct⟩
theorem DB.setT {w : World} {b : Nat} {g : Nat → Nat} {n : Nat} {dp : Int} {ng tr : Bool} (h : DB w b g n dp ng tr) (m : Bool) :
    DB (w.setCell ⟨b, 803, none⟩ (.bool m)) b g n dp ng m := by
  have ne : ∀ j, j ≠ 803 → (⟨b, 803, none⟩ : Addr) ≠ ⟨b, j, none⟩ := fun j hj e => by injection e with _ e2; exact hj e2.symm
  exact ⟨fun j hj => (World.cell?_setCell_other _ _ _ _ (ne j (by omega))).trans (h.c j hj), h.l, fun j hj => by simp [h.f j hj], (World.cell?_setCell_other _ _ _ _ (ne _ (by omega))).trans h.cn,
    (World.cell?_setCell_other _ _ _ _ (ne _ (by omega))).trans h.cd, (World.cell?_setCell_other _ _ _ _ (ne _ (by omega))).trans h.cg, World.cell?_setCell_same _ _ _ h.ct⟩
theorem DB.drew {w : World} {b : Nat} {g : Nat → Nat} {n : Nat} {dp : Int} {ng tr : Bool} (h : DB w b g n dp ng tr) (q : Nat) : DB (w.drewN q) b g n dp ng tr :=
  ⟨fun j hj => by simpa using h.c j hj, h.l, fun j hj => by simpa using h.f j hj, by simpa using h.cn, by simpa using h.cd, by simpa using h.cg, by simpa using h.ct⟩
end
section
open Go Go.ChangeShapes Go.WideShapes Go.RowKit
set_option linter.unusedVariables false
set_option linter.unusedSimpArgs false
/-- How many digits the memory says there are. -/
def ndOf (w : World) (b : Nat) : Nat := match w.cell? ⟨b, 800, none⟩ with
  | some (.int _ n) => n.toNat
  | _ => 0
theorem DB.nd {w : World} {b : Nat} {g : Nat → Nat} {n : Nat} {dp : Int} {ng tr : Bool} (h : DB w b g n dp ng tr) : ndOf w b = n := by
  unfold ndOf; rw [h.cn]; simp
/-- A decimal of digits, in memory. -/
structure DM (w : World) (b : Nat) (s : DS) (ng : Bool) : Prop where
  ex : ∃ g, DB w b g s.n s.dp ng s.tr ∧ Dgs g s.V s.n
theorem last_dg (V k : Nat) : dg V (k + 1) k = V % 10 := by unfold dg; simp
theorem pre_dg {V k i : Nat} (hi : i < k) : dg (V / 10) k i = dg V (k + 1) i := by
  unfold dg
  rw [Nat.div_div_eq_div_mul, Nat.mul_comm, ← Nat.pow_succ]
  congr 2; congr 1; omega
theorem trimP_stop {V k : Nat} (h : V % 10 ≠ 0) : trimP V (k + 1) = (V, k + 1) := by unfold trimP; rw [if_neg h]
theorem trimP_go {V k : Nat} (h : V % 10 = 0) : trimP V (k + 1) = trimP (V / 10) k := by conv => lhs; unfold trimP; rw [if_pos h]
set_option maxRecDepth 100000 in
theorem trim_any (b V n : Nat) (dp : Int) (ng tr : Bool) (g : Nat → Nat) (w : World) (hn : n ≤ 800) (hD : DB w b g n dp ng tr) (hg : Dgs g V n) :
    Calls Tryz.prog 215 #[.pointer (some ⟨b, 0, none⟩)] w fun e w' => e = .returned (.tuple #[]) ∧ DM w' b (trimS ⟨V, n, dp, tr⟩) ng ∧ Below b w w' := by
  have HD := Lib.hid hD
  have HG := Lib.hid hg
  have HX := Lib.hid (Below.refl b w)
  obtain ⟨R, hR⟩ : ∃ R, trimP V n = R := ⟨_, rfl⟩
  have HR := Lib.hid hR
  have hS : trimS ⟨V, n, dp, tr⟩ = ⟨R.1, R.2, if R.2 = 0 then 0 else dp, tr⟩ := by unfold trimS; rw [hR]
  obtain ⟨S, hSS⟩ : ∃ S, trimS ⟨V, n, dp, tr⟩ = S := ⟨_, rfl⟩
  have HS := Lib.hid (hSS.symm.trans hS)
  rw [hSS]
  clear hD hg hR hS hSS
  go_enter Tryz.func215, Tryz.ntmps215
  go_wp2_with fail
  go_loopw [] (fun wr => ∃ (U m : Nat), DB wr b g m dp ng tr ∧ Dgs g U m ∧ trimP U m = R ∧ m ≤ 800 ∧ Below b w wr) (fun wr => ndOf wr b)
  case atStart => exact ⟨V, n, HD.out, HG.out, HR.out, hn, HX.out⟩
  case round =>
    obtain ⟨U, m, hD2, hg2, hR2, hm, hX2⟩ := hrel
    have HD2 := Lib.hid hD2
    have HG2 := Lib.hid hg2
    have HX2 := Lib.hid hX2
    have hR3 := hR2
    by_cases h0 : m = 0
    · subst h0
      have hcn := hD2.cn
      have hfd := hD2.f 801 (by omega)
      have hcd := hD2.cd
      have HRR := Lib.hid (show S = ⟨U, 0, 0, tr⟩ by rw [HS.out, ← hR2]; rfl)
      clear hD2 hg2 hR2 hR3 hX2 HS
      go_wp2_with fail
      go_quiet (fail)
      go_wp2_with fail
      refine ⟨rfl, .tuple #[], by simp [results, Tryz.results215, go_sem], rfl, ?_, ?_⟩
      · rw [HRR.out]
        exact ⟨⟨g, (HD2.out.drew _).setP 0, fun i hi => absurd hi (by simp)⟩⟩
      · exact (below_drewN HX2.out _).setCell (Nat.le_refl _) _
    · obtain ⟨k, rfl⟩ : ∃ k, m = k + 1 := ⟨m - 1, by omega⟩
      have hcn := hD2.cn
      have hfn := hD2.f 800 (by omega)
      have hck := hD2.c k (by omega)
      have hgk := hg2 k (by omega)
      rw [last_dg] at hgk
      have hk1 : IntKind.i64.wrap (((k + 1 : Nat) : Int) - 1) = (k : Int) := by rw [IntWalk.i64_in _ (by omega)]; omega
      have hk2 : (k : Int) < 800 := by omega
      by_cases hz : U % 10 = 0
      · rw [hgk, hz] at hck
        have HR2 := Lib.hid (show trimP (U / 10) k = R by rw [← trimP_go hz, hR2])
        clear hD2 hg2 hR2 hX2 hR3 hgk hz
        go_wp2_with fail
        go_quiet (fail)
        go_wp2_with fail
        have hD3 : DB ((wr.drewN nq).setCell ⟨b, 800, none⟩ (.int .i64 (k : Int))) b g k dp ng tr := (HD2.out.drew nq).setN k
        refine ⟨⟨U / 10, k, hD3, fun i hi => ?_, HR2.out, by omega, ?_⟩, ?_⟩
        · rw [pre_dg hi]
          exact HG2.out i (by omega)
        · exact (below_drewN HX2.out _).setCell (Nat.le_refl _) _
        · rw [hD3.nd, HD2.out.nd]; omega
      · have hq : ¬ ((g k : Nat) : Int) = 48 := by omega
        have HRR := Lib.hid (show S = ⟨U, k + 1, dp, tr⟩ by rw [HS.out, ← hR2, trimP_stop hz]; simp)
        clear hD2 hg2 hR2 hX2 hR3 hgk hz HS
        go_wp2_with fail
        go_quiet (fail)
        go_wp2_with fail
        refine ⟨rfl, .tuple #[], by simp [results, Tryz.results215, go_sem], rfl, ?_, ?_⟩
        · rw [HRR.out]
          exact ⟨⟨g, HD2.out.drew _, HG2.out⟩⟩
        · exact below_drewN HX2.out _
end
section
open Go Go.ChangeShapes Go.WideShapes Go.RowKit Go.PlainAid
set_option linter.unusedVariables false
set_option linter.unusedSimpArgs false
theorem drew_two {w : World} {a b c : Nat} : ∃ q, ((w.drewN a).drewN b).drewN c = w.drewN q := ⟨a + (b + c), by unfold World.drewN; simp [Nat.add_assoc]⟩
set_option maxRecDepth 100000 in
theorem prefix_any (b V n C L : Nat) (s : ByteArray) (g : Nat → Nat) (dp : Int) (ng tr : Bool) (w : World) (hn : n ≤ 800) (hD : DB w b g n dp ng tr) (hg : Dgs g V n)
    (hV : V < 10 ^ n) (hC : C < 10 ^ L) (hz : C % 10 ≠ 0) (hs : s.size = L) (hL : L ≤ 100) (hb : ∀ i, i < L → bt s i = ((48 + dg C L i : Nat) : Int)) :
    Calls Tryz.prog 239 #[.slice (some ⟨b, 0, none⟩) n 800, .string s] w fun e w' => e = .returned (.bool (decide (V * 10 ^ L < C * 10 ^ n))) ∧ ∃ q, w' = w.drewN q := by
  have HD := Lib.hid hD
  have HG := Lib.hid hg
  have HB := Lib.hid hb
  have HZ := Lib.hid hz
  have HS := Lib.hid hs
  have hget := get_bt s
  have hsz : (s.size : Int) = (L : Int) := by rw [hs]
  have h0V := tp_zero hV
  have h0C := tp_zero hC
  have H0 := Lib.hid (h0V.trans h0C.symm)
  obtain ⟨res, hres⟩ : ∃ r, decide (V * 10 ^ L < C * 10 ^ n) = r := ⟨_, rfl⟩
  rw [hres]
  have HR := Lib.hid hres
  clear hD hg hb hz hs hV hC h0V h0C hres
  go_enter Tryz.func239, Tryz.ntmps239
  go_wp2_with fail
  go_loopw [5] (fun s5 wr => ∃ (i q : Nat), s5 = .int .i64 (i : Int) ∧ i ≤ L ∧ i ≤ n ∧ tp V n i = tp C L i ∧ wr = w.drewN q) (fun s5 wr => (L - RowKit.intOf s5).toNat)
  case atStart => exact ⟨0, 0, rfl, by omega, by omega, H0.out, rfl⟩
  case round =>
    obtain ⟨i, q, rfl, hiL, hin, hti, rfl⟩ := hrel
    have HTI := Lib.hid hti
    have HD2 := Lib.hid (HD.out.drew q)
    clear hti
    have hi64 : (i : Int) ≤ 900 := by omega
    by_cases hl : i < L
    · have hlI : (i : Int) < (L : Int) := by omega
      by_cases hin2 : i < n
      · have hnI : (i : Int) < (n : Int) := by omega
        have c1 := HD.out.c i (by omega)
        have hgi := HG.out i hin2
        have hbi := HB.out i hl
        have hgl := HD.out.l i
        by_cases he : dg V n i = dg C L i
        · have hne : ((g i : Nat) : Int) = bt s i := by rw [hbi, hgi, he]
          have HT := Lib.hid (show tp V n (i + 1) = tp C L (i + 1) by rw [tp_step hin2, tp_step hl, HTI.out, he])
          clear he hgi hbi
          go_wp2_with fail
          go_quiet (fail)
          go_wp2_with fail
          exact ⟨⟨i + 1, q + nq, by congr 1, by omega, by omega, HT.out, rfl⟩, by simp only [RowKit.intOf]; omega⟩
        · have hne : ¬ ((g i : Nat) : Int) = bt s i := by rw [hbi, hgi]; omega
          have hlt : (decide (((g i : Nat) : Int) < bt s i)) = res := by
            rw [← HR.out, hbi, hgi, decide_eq_decide]
            have t1 := tp_step (V := V) hin2
            have t2 := tp_step (V := C) hl
            rw [HTI.out] at t1
            rcases Nat.lt_or_ge (dg V n i) (dg C L i) with h | h
            · have := pl_less (V := V) (n := n) (C := C) (L := L) (j := i + 1) (by omega) (by omega) (by omega)
              constructor
              · intro _; exact this
              · intro _; omega
            · have := pl_more (V := V) (n := n) (C := C) (L := L) (j := i + 1) (by omega) (by omega) (by omega)
              constructor
              · intro h2; omega
              · intro h2; exact absurd h2 this
          have HLT := Lib.hid hlt
          clear he hgi hbi hlt
          go_wp2_with fail
          go_quiet (fail)
          go_wp2_with fail
          go_quiet (fail)
          go_wp2_with fail
          go_ret
          exact ⟨by rw [← HLT.out]; rfl, drew_two⟩
      · have hnI : ¬ (i : Int) < (n : Int) := by omega
        have hni : i = n := by omega
        have hr : res = true := by
          rw [← HR.out, decide_eq_true_eq]
          exact pl_eq hni hl HTI.out HZ.out
        have HRT := Lib.hid hr
        clear hr hni
        go_wp2_with fail
        go_ret
        exact ⟨by rw [HRT.out]; rfl, _, rfl⟩
    · have hlI : ¬ (i : Int) < (L : Int) := by omega
      have hiL2 : i = L := by omega
      have hr : res = false := by
        rw [← HR.out, decide_eq_false_iff_not]
        subst hiL2
        exact pl_all hin HTI.out
      have HRT := Lib.hid hr
      clear hr hiL2
      go_wp2_with fail
      go_ret
      exact ⟨by rw [HRT.out]; rfl, _, rfl⟩
end
end Go.Proofs.YtpebnofjcodikaaGreatDoor
