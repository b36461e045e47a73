/- Layer 20: the iterator over a frame's registers, and Clear. -/
import Derived.Test.YtilonacjmihglaaPPm
import Derived.Test.YtilonacjmihglaaPKw
import Derived.OwnWalkIn
import Derived.TacticsInMore
import Derived.LoopIn
namespace Go.Proofs.Ytilonacjmihglaa
open Go Go.ChangeShapes Go.WideShapes Go.ChangeAt Go.RowKit
set_option linter.unusedVariables false
set_option linter.unusedSimpArgs false
attribute [local go_sem] Oper.semAt_some
theorem cell_newK {w : World} {cs : Array Value} {T : TypeId} {k : Nat} {v : Value} (h : cs[k]? = some v) : (w.alloc (.cells cs T)).cell? ⟨w.heap.size, k, none⟩ = some v := by
  unfold World.cell?
  rw [heap_alloc_new]
  exact h
theorem enter_regs (args : Array Value) (w : World) : (callFunc 54 args).run Try.prog w = .ok (.enter 54 args) w := enters_of Try.func54 (by kernel_rfl) rfl args w
theorem But1.kw {g : Nat} {A B : World} (h : But1 g A B) {K : Nat → Prop} (hK : ∀ b, K b → b ≠ g) : Kw K A B := ⟨h.os, h.tape, h.output, h.size, fun b hb hl => h.block b hl (hK b hb)⟩
theorem registers_any (n : Int) (w : World) :
    Calls Try.prog 29 #[.int .i64 n] w fun e w' => e = .returned (.func (.func 54) #[] #[.pointer (some ⟨w.heap.size, 0, none⟩)]) ∧ w' = w.alloc (.cells #[.int .i64 n] 3) := by
  go_enter Try.func29, Try.ntmps29
  go_wp2
  go_ret
  exact ⟨rfl, rfl⟩
def ItR (k : Nat) (A : World) (args : Array Value) : Prop := args = #[.int .i64 (k : Int), .int .i64 (6 + (k : Int))]
set_option maxRecDepth 100000 in
set_option maxHeartbeats 4000000 in
theorem regs_gives (n : Nat) (hn : n ≤ 16777216) (W : World) (bn : Nat) (K : Nat → Prop) (hbn : W.cell? ⟨bn, 0, none⟩ = some (.int .i64 n)) :
    GivesE Try.prog 54 #[.pointer (some ⟨bn, 0, none⟩)] n ItR K W := by
  intro l J hJ hstep hE0
  have HST := Lib.hid hstep
  have HE0 := Lib.hid hE0
  clear hJ hstep hE0
  refine (callsIn_wide (n := 0)).2 ?_
  go_enter Try.func54, Try.ntmps54
  go_wp2_with fail
  refine (wpIn_wide (n := 0)).1 ?_
  gi_loopw [5] (fun s wr => ∃ k : Nat, s = .int .i64 k ∧ k ≤ n ∧ J W.heap.size k wr ∧ W.heap.size ≤ wr.heap.size) (fun s _ => n - (intOf s).toNat)
  case atStart => exact ⟨0, rfl, Nat.zero_le _, HE0.out _ (Nat.le_refl _), Nat.le_refl _⟩
  case round =>
    obtain ⟨k, rfl, hk, hJk, hs⟩ := hrel
    have HJK := Lib.hid hJk
    clear hJk
    by_cases hlt : k < n
    · have hltz : (k : Int) < (n : Int) := by omega
      obtain ⟨fn, tmps, assign, body, hy, hR⟩ := HST.out W.heap.size k wr _ (Nat.le_refl _) hs hlt HJK.out rfl
      gi_wp2
      refine ⟨rfl, hR.mono ?_⟩
      rintro e W3 ⟨rfl, hJ3, hk3⟩
      have HJ3 := Lib.hid hJ3
      have hs3 := Nat.le_trans hs hk3.size
      clear hJ3 hk3
      gi_wp2
      go_roundw
      case rel => exact ⟨k + 1, by go_num, by omega, HJ3.out, hs3⟩
      case measure => simp [intOf]; omega
    · obtain rfl : k = n := by omega
      have hltz : ¬ (k : Int) < (k : Int) := by omega
      gi_wp2
      go_end0
      exact ⟨⟨_, rfl⟩, W.heap.size, Nat.le_refl _, HJK.out⟩
/-- What isF says of the head. -/
theorem isF_in {vs : List Int} {f : Int} (h : isF vs f = true) : kindOf f = 0 ∧ there vs (f / 4) = true ∧ frA vs f = f / 4 ∧ frN vs f = hT (headAt vs (f / 4)) - 6 ∧ 6 ≤ hT (headAt vs (f / 4)) ∧ hS (headAt vs (f / 4)) - 2 = hT (headAt vs (f / 4)) := by
  have h0 := h
  unfold isF at h
  simp only [Bool.and_eq_true, decide_eq_true_eq] at h
  obtain ⟨h1, h2, h3, h4⟩ := h
  have h1' := h1
  unfold lOk at h1'
  simp only [Bool.and_eq_true, decide_eq_true_eq] at h1'
  unfold lT at h3
  rw [if_pos h1] at h3
  unfold lR at h4
  rw [if_pos h1] at h4
  refine ⟨h1'.1, h1'.2, ?_, ?_, h3, by omega⟩
  · unfold frA lA; rw [if_pos h0, if_pos h1]
  · unfold frN lT; rw [if_pos h0, if_pos h1]
def CPost (w : World) (B g c tn : Nat) (ws : List Int) (f : Int) (live : List Nat) (e : Ending) (w' : World) : Prop :=
  (isF (ws.take tn) f = false ∧ e = .returned (.int .i64 1) ∧ Below w.heap.size w w') ∨
  (isF (ws.take tn) f = true ∧ e = .returned (.int .i64 0) ∧ PM w' B g c tn (clrL ws (f / 4).toNat live (frN (ws.take tn) f).toNat) ∧ But1 g w w')
/-- What the rounds of Clear hold. -/
structure CJ (B g c tn : Nat) (ws : List Int) (a : Nat) (live : List Nat) (WL : World) (E k : Nat) (A : World) : Prop where
  pm : PM A B g c tn (clrL ws a live k)
  but : But1 g WL A
theorem CJ.kw {B g c tn : Nat} {ws : List Int} {a : Nat} {live : List Nat} {WL : World} {E k : Nat} {A A' : World} (h : CJ B g c tn ws a live WL E k A) {K : Nat → Prop} (hk : Kw K A A') (hK : ∀ b, b < WL.heap.size → K b) (hB : B < WL.heap.size) (hg : g < WL.heap.size) : CJ B g c tn ws a live WL E k A' :=
  ⟨h.pm.of (hk.block _ (hK _ hB) (by have := h.but.size; omega)) (hk.block _ (hK _ hg) (by have := h.but.size; omega)),
   ⟨hk.os.trans h.but.os, hk.tape.trans h.but.tape, hk.output.trans h.but.output, Nat.le_trans h.but.size hk.size, fun b hb hn => (hk.block b (hK b hb) (Nat.lt_of_lt_of_le hb h.but.size)).trans (h.but.block b hb hn)⟩⟩
set_option maxRecDepth 100000 in
set_option maxHeartbeats 4000000 in
theorem clear_any {w : World} {B g c tn : Nat} {ws : List Int} (h : PM w B g c tn ws) (f : Int) (hw : (Lit.int .u64 f).wf = true) (lv : Value) (live : List Nat) (hlive : ∀ A, But1 g w A → Rw A lv live) :
    Calls Try.prog 14 #[.pointer (some ⟨B, 0, none⟩), .int .u64 f, lv] w (CPost w B g c tn ws f live) := by
  obtain ⟨p, cl, rfl, hm⟩ := rd_form0 (hlive w (But1.of (Below.refl _ _))).1
  have HL := Lib.hid hlive
  have HP := Lib.hid h
  have hB := h.ltB
  have hg := h.ltg
  have b0 := h.ma.box0
  have b1 := h.ma.box1
  have b0 := fun o => alloc_cell b0 o
  have b1 := fun o => alloc_cell b1 o
  have b0 := fun o o2 => alloc_cell (b0 o) o2
  have b1 := fun o o2 => alloc_cell (b1 o) o2
  clear h hlive
  refine calls_of_marks Try.func14 rfl ?_
  simp only [Try.ntmps14, List.size_toArray, List.length_cons, List.length_nil, Nat.reduceAdd, Nat.reduceSub, Array.replicate_succ, Array.replicate_zero, List.push_toArray, List.append_toArray, List.nil_append, List.cons_append]
  go_wp2_with fail
  generalize hw1 : World.alloc (World.alloc w _) _ = w1
  have HB1 := Lib.hid (show Below w.heap.size w w1 by rw [← hw1]; exact ((Below.refl _ _).alloc (Nat.le_refl _) _).alloc (by simp) _)
  have y3 : w1.cell? ⟨w.heap.size, 0, none⟩ = some (.pointer (some ⟨B, 0, none⟩)) := by rw [← hw1]; exact alloc_cell (by simp) _
  have y5 : w1.cell? ⟨w.heap.size + 1, 0, none⟩ = some (.slice p (ints live).length cl) := by rw [← hw1]; simp
  have hs1 : w1.heap.size = w.heap.size + 2 := by rw [← hw1]; simp
  clear hw1 b0 b1
  have HP1 := Lib.hid (HP.out.keep HB1.out)
  refine (frat_any _ ws tn f _ HP1.out.rd HP1.out.fit HP1.out.t1 hw).mono ?_
  rintro e w2 ⟨rfl, hb2⟩
  have HB2 := Lib.hid (HB1.out.trans (hb2.mono HB1.out.size))
  have y3 := below_cell hb2 y3
  have y5 := below_cell hb2 y5
  have HP2 := Lib.hid (HP1.out.keep hb2)
  have hs2 : w.heap.size + 2 ≤ w2.heap.size := by have := hb2.size; omega
  have hrl := HP2.out.rd.bound
  have hft := HP2.out.fit
  have hlen : (ws.take tn).length = tn := by rw [List.length_take]; have := HP2.out.t1; omega
  clear hb2 HP1 HB1 hs1
  cases hF : isF (ws.take tn) f
  · have HE := Lib.hid hF
    clear hft hrl hlen
    go_wp2_with fail
    exact ⟨_, results_tmp rfl _ _ _, .inl ⟨HE.out, rfl, HB2.out.alloc HB2.out.size _⟩⟩
  · have HI := Lib.hid (isF_in hF)
    have HF := Lib.hid hF
    have hx := wfu hw
    obtain ⟨a, ha⟩ : ∃ a : Nat, f / 4 = (a : Int) := ⟨(f / 4).toNat, by omega⟩
    obtain ⟨n, hn⟩ : ∃ n : Nat, frN (ws.take tn) f = (n : Int) := ⟨(frN (ws.take tn) f).toNat, by have := HI.out.2.2.2; omega⟩
    have HA := Lib.hid ha
    have HN := Lib.hid hn
    have hfa : frA (ws.take tn) f = (a : Int) := by rw [HI.out.2.2.1, ha]
    rw [hfa, hn]
    have hn2 : n ≤ 16777216 := by have := HI.out.2.2.2.1; have := hT_lo (headAt (ws.take tn) (f / 4)); omega
    clear hft hrl hF hfa ha hn hx
    go_wp2_with (first | (go_at_call 28; (with_reducible refine (unbound_any _).mono ?_); rintro e w9 ⟨rfl, rfl⟩) | (go_at_call 29; (with_reducible refine (registers_any _ _).mono ?_); rintro e w9 ⟨rfl, rfl⟩) | fail)
    obtain ⟨WL, hWL⟩ : ∃ WL, ((w2.alloc (Obj.cells #[Value.int IntKind.i64 (a : Int)] 3)).alloc (Obj.cells #[Value.int IntKind.u64 14] 29)).alloc (Obj.cells #[Value.int IntKind.i64 (n : Int)] 3) = WL := ⟨_, rfl⟩
    rw [hWL]
    have HBL := Lib.hid (show Below w2.heap.size w2 WL by rw [← hWL]; ((repeat' (first | with_reducible assumption | with_reducible exact Below.refl _ _ | with_reducible refine Below.drew ?_ | with_reducible refine Below.alloc ?_ (by first | omega | (simp; omega) | (simp; done) | fail) _ | with_reducible refine Below.setCell ?_ (by first | omega | (simp; omega) | (simp; done) | fail) _ | fail)); (first | done | fail)))
    have hsz : WL.heap.size = w2.heap.size + 3 := by rw [← hWL]; simp
    have ya : WL.cell? ⟨w2.heap.size, 0, none⟩ = some (.int .i64 a) := by rw [← hWL]; exact alloc_cell (alloc_cell (by simp) _) _
    have ye : WL.cell? ⟨w2.heap.size + 1, 0, none⟩ = some (.int .u64 14) := by rw [← hWL]; exact alloc_cell (by simp) _
    have yn : WL.cell? ⟨w2.heap.size + 2, 0, none⟩ = some (.int .i64 n) := by
      rw [← hWL]
      have := cell_newK (w := (w2.alloc (Obj.cells #[Value.int IntKind.i64 (a : Int)] 3)).alloc (Obj.cells #[Value.int IntKind.u64 14] 29)) (cs := #[.int .i64 (n : Int)]) (T := 3) (k := 0) rfl
      simpa using this
    have y3 := below_cell HBL.out y3
    have y5 := below_cell HBL.out y5
    have HPL := Lib.hid (HP2.out.keep HBL.out)
    have HB := Lib.hid (HB2.out.trans (HBL.out.mono HB2.out.size))
    clear hWL HP2 HB2
    refine wp_rangeE (K := fun b => b < WL.heap.size ∧ b ≠ g) (It := ItR) (N := n) (by rfl) (fun _ _ => enter_regs _ _) ?hseq ?hKs ?hps
      (CJ B g c tn ws a live WL) ?hJ ?hIt ?h0 ?hround ?hdone
    case hseq =>
      intro W hk hs
      exact regs_gives n hn2 W (w2.heap.size + 2) _ ((World.cell?_of_block (a := ⟨w2.heap.size + 2, 0, none⟩) (hk.block _ trivial (by dsimp only; omega))).trans yn)
    case hKs => intro b hb; exact hb.1
    case hps => rintro k A args rfl; rfl
    case hJ => 
      intro E k A A' hE hj hk
      exact hj.kw hk (fun b hb => by omega) (by omega) (by omega)
    case hIt => rintro k A A' args rfl hk; rfl
    case h0 => exact fun E => ⟨HPL.out, But1.of (Below.refl _ _)⟩
    case hround =>
      rintro l E k args A hE hEA hkn hj rfl
      clear hj
      gi_wp2
      (try refine ⟨trivial, ?_⟩)
      intro A5 hEA5 hj hit
      have HJ := Lib.hid hj
      have z3 := hj.but.cell y3 (by omega)
      have z5 := hj.but.cell y5 (by omega)
      have za := hj.but.cell ya (by omega)
      have ze := hj.but.cell ye (by omega)
      have HR := Lib.hid (HL.out A5 ((But1.of HB.out).trans hj.but))
      have hkz : 0 ≤ (k : Int) ∧ (k : Int) < 9223372036854775808 := by omega
      clear hj hit
      gi_wp2
      refine ⟨trivial, rfl, CallsIn.mono (CallsIn.inRound l (callsIn_wide.2 (hasr_any _ live k A5 HR.out hkz.2 (by omega)))) ?_⟩
      rintro e w6 ⟨rfl, rfl⟩
      rw [isB_nat]
      cases hb : hasW live k
      · have HHB := Lib.hid hb
        have HPJ := Lib.hid HJ.out.pm
        have hkl : a + 8 + k ≤ ws.length := by
          have h1 := there_in HI.out.2.1
          have h2 := HI.out.2.2.2
          have h3 := HN.out
          have h4 := HA.out
          have h5 := HPL.out.t1
          omega
        have HCH := Lib.hid (clr_head ws a live k tn hkl)
        have HST := Lib.hid (fun (x : Int) (hx : x = 6 + (k : Int)) => by
          have h1 := HI.out
          rw [HA.out] at h1
          have h3 := HN.out
          have h2 := pm_set HPJ.out a (6 + k) 14 (by decide) (by rw [HCH.out.2]; exact h1.2.1) (by rw [HCH.out.1]; push_cast; omega) (by decide)
          rw [show ((6 + k : Nat) : Int) = x by rw [hx]; push_cast; rfl] at h2
          exact h2)
        gi_wp2
        refine ⟨trivial, rfl, CallsIn.mono (CallsIn.inRound l (callsIn_wide.2 (HST.out _ rfl))) ?_⟩
        rintro e w7 ⟨rfl, hpm, hbt⟩
        have HPM := Lib.hid hpm
        have HBT := Lib.hid hbt
        clear hpm hbt
        gi_wp2
        refine ⟨⟨?_, HJ.out.but.trans HBT.out⟩, HBT.out.kw fun b hb => ?_⟩
        · have : clrL ws a live (k + 1) = (clrL ws a live k).set (a + 8 + k) 14 := by
            conv => lhs; unfold clrL
            rw [if_neg (by rw [HHB.out]; simp)]
          rw [this, show a + 8 + k = a + 2 + (6 + k) by omega]
          exact HPM.out
        · rcases hb with h | h | h | h <;> omega
      · have HHB := Lib.hid hb
        gi_wp2
        refine ⟨⟨?_, HJ.out.but⟩, Kw.refl _ _⟩
        have : clrL ws a live (k + 1) = clrL ws a live k := by
          conv => lhs; unfold clrL
          rw [if_pos HHB.out]
        rw [this]
        exact HJ.out.pm
    case hdone =>
      intro E W hE hj hD
      have HJ := Lib.hid hj
      have HD := Lib.hid hD
      have HEE := Lib.hid hE
      clear hj hD hE
      go_wp2
      refine leaves_marks (S := WL.heap.size) _ _ ⟨[WL.heap.size], rfl, by simp, fun D hm => by simp at hm; subst hm; exact ⟨Nat.le_refl _, HD.out⟩⟩ ?_
      intro W' hk
      refine ⟨_, results_tmp rfl _ _ _, .inr ⟨HF.out, rfl, ?_, ?_⟩⟩
      · rw [HA.out, HN.out, Int.toNat_natCast, Int.toNat_natCast]
        exact HJ.out.pm.of (hk.block _ (.inl (by omega)) (by have := HJ.out.but.size; omega)) (hk.block _ (.inl (by omega)) (by have := HJ.out.but.size; omega))
      · have h2 := (But1.of HB.out).trans HJ.out.but
        exact ⟨hk.os.trans h2.os, hk.tape.trans h2.tape, hk.output.trans h2.output, Nat.le_trans h2.size hk.size, fun b hb hn => (hk.block b (.inl (by omega)) (Nat.lt_of_lt_of_le hb h2.size)).trans (h2.block b hb hn)⟩
end Go.Proofs.Ytilonacjmihglaa
