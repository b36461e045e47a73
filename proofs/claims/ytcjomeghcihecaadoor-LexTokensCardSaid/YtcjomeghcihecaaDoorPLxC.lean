/- Layer 4: blocks are closed. -/
import Derived.Test.YtcjomeghcihecaaDoorPLxPut
namespace Go.Proofs.YtcjomeghcihecaaDoor
open Go Go.ChangeShapes Go.WideShapes Go.ChangeAt Go.RowKit Go.PlainAid Go.Maps
set_option linter.unusedVariables false
set_option linter.unusedSimpArgs false
/-- How many are open, told from the block. -/
def opO (x : Nat) (w : World) : Nat := match w.cell? ⟨x, 4, none⟩ with
  | some (.slice _ n _) => n
  | _ => 0
theorem LX.opO {D : DataW Unit} {w : World} {B x mb kb : Nat} {σ : LxD} (h : LX D w B x mb kb σ) : opO x w = σ.op.length := by
  obtain ⟨ov, tv, h⟩ := h
  unfold Go.Proofs.YtcjomeghcihecaaDoor.opO
  rw [h.c.c4]
  obtain ⟨p, c, rfl⟩ := owns_form h.o
  simp
theorem outsD_succ (k : Nat) (ln : Int) : outsD k ln ++ [⟨3, ln, []⟩] = outsD (k + 1) ln := by
  unfold outsD; rw [← List.replicate_append_replicate (n := k) (m := 1)]; rfl
theorem popD_len (n : Int) : ∀ op : List Int, (popD n op).length ≤ op.length
  | [] => Nat.le_refl _
  | t :: r => by
    simp only [popD]
    split
    · exact Nat.le_succ_of_le (popD_len n r)
    · exact Nat.le_refl _
theorem popD_top {n : Int} {op : List Int} (h : OpOk op) (hn : 0 ≤ n) : ∃ t r, popD n op = t :: r ∧ t ≤ n := by
  obtain ⟨q, rfl, hq⟩ := h
  induction q with
  | nil => exact ⟨0, [], by simp only [List.nil_append, popD]; rw [if_neg (by omega)], hn⟩
  | cons x q ih =>
    simp only [List.cons_append, popD]
    split
    · exact ih fun y hy => hq y (List.mem_cons_of_mem _ hy)
    · exact ⟨x, q ++ [0], rfl, by omega⟩
set_option maxRecDepth 100000 in
set_option maxHeartbeats 4000000 in
theorem closeTo_any {D : DataW Unit} {w : World} {B x mb kb : Nat} {σ : LxD} (h : LX D w B x mb kb σ) (n : Nat) (hop : OpOk σ.op) (hfit : ∀ t ∈ σ.op, t ≤ 20000) (hol : σ.out.length + σ.op.length ≤ 900000) :
    Calls Tryd.prog 21 #[.pointer (some ⟨x, 0, none⟩), .int .i64 n] w fun e w' => e = .returned (.tuple #[]) ∧
      LX D w' B x mb kb { σ with op := popD n σ.op, out := σ.out ++ outsD (σ.op.length - (popD n σ.op).length) σ.ln } ∧ Below B w w' := by
  obtain ⟨s, a, ln, d, op, out⟩ := σ
  simp only at h hop hol hfit ⊢
  have H := Lib.hid h
  have HOP := Lib.hid hop
  clear h
  go_enter Tryd.func21, Tryd.ntmps21
  go_wp2_with fail
  go_loopw [] (fun wr => ∃ op2 out2 : _, OpOk op2 ∧ (∀ t ∈ op2, t ≤ 20000) ∧ popD n op2 = popD n op ∧ op2.length ≤ op.length ∧ out2 = out ++ outsD (op.length - op2.length) ln ∧ LX D wr B x mb kb ⟨s, a, ln, d, op2, out2⟩ ∧ Below B w wr) (fun wr => opO x wr)
  case atStart => exact ⟨op, out, hop, hfit, rfl, Nat.le_refl _, by simp [outsD], H.out, Below.refl _ _⟩
  case round =>
    obtain ⟨op2, out2, h1, h2, h3, h4, h5, hx, hbw⟩ := hrel
    have HOPO := Lib.hid hx.opO
    obtain ⟨ov, tv, hv⟩ := hx
    obtain ⟨t, r, rfl⟩ : ∃ t r, op2 = t :: r := by
      cases op2 with
      | nil => exact absurd h1.len (by simp)
      | cons t r => exact ⟨t, r, rfl⟩
    obtain ⟨g, c, rfl, hcell, hgc⟩ := hv.top rfl
    have HV := Lib.hid hv
    have H1 := Lib.hid h1
    have H2 := Lib.hid h2
    have H3 := Lib.hid h3
    have H5 := Lib.hid h5
    have HBW := Lib.hid hbw
    have c4 := hv.c.c4
    have f4 := hv.c.f 4

    have ht0 : 0 ≤ t := by have := h1.head; simpa using this
    have ht1 : t ≤ 20000 := h2 t (by simp)
    have hol2 : out2.length ≤ 900000 := by
      have := congrArg List.length h5
      simp only [List.length_append, outsD, List.length_replicate] at this
      simp only [List.length_cons] at h4
      omega
    have hrl : r.length < 900000 := by simp only [List.length_cons] at h4; omega
    have e1 : IntKind.i64.wrap (((r.length + 1 : Nat) : Int) - 1) = (r.length : Int) := by rw [i64_in (by omega) (by omega)]; omega
    have hrz : (r.length : Int) < ((r.length + 1 : Nat) : Int) := by omega
    clear hv hbw h1 h2 h3 h5
    by_cases hc : (n : Int) < t
    · have hcz : t > (n : Int) := hc
      go_wp2_with fail
      go_quiet (fail)
      go_wp2_with fail
      have HP := Lib.hid (fun (w1 : World) (hw : Below wr.heap.size wr w1) => (HV.out.keep hw).popO (t := t) (r := r) (n := r.length) rfl rfl)
      go_region
      go_wp2_with fail
      refine (put_any (D := D) (B := B) (mb := mb) (kb := kb) (σ := ⟨s, a, ln, d, r, out2⟩) ⟨_, _, (HP.out _ (Below.drew (drew_below _ _ _))).1⟩ (Nat.le_trans hol2 (by decide)) 3 []).mono ?_
      rintro e w3 ⟨rfl, hx3, hb3⟩
      have HX3 := Lib.hid hx3
      have HB3 := Lib.hid (HBW.out.trans (((Below.drew (drew_below B wr nq)).trans (HP.out _ (Below.drew (drew_below _ _ nq))).2).trans hb3))
      clear hx3 hb3
      go_wp2_with fail
      go_roundw
      case rel =>
        refine ⟨r, out2 ++ [⟨3, ln, []⟩], ?_, fun y hy => H2.out y (List.mem_cons_of_mem _ hy), ?_, ?_, ?_, HX3.out, HB3.out⟩
        · obtain ⟨q, hq, hq2⟩ := H1.out
          cases q with
          | nil =>
            simp only [List.nil_append, List.cons.injEq] at hq
            omega
          | cons y q =>
            simp only [List.cons_append, List.cons.injEq] at hq
            exact ⟨q, hq.2, fun z hz => hq2 z (List.mem_cons_of_mem _ hz)⟩
        · rw [← H3.out]
          simp only [popD]
          rw [if_pos hc]
        · simp only [List.length_cons] at h4
          omega
        · rw [H5.out, List.append_assoc, outsD_succ]
          congr 2
          simp only [List.length_cons] at h4 ⊢
          omega
      case measure =>
        have h1 := HX3.out.opO
        have h2 := HOPO.out
        simp only [List.length_cons] at h1 h2
        first | (rw [h1, h2]; omega) | (simp_all; omega)
    · have hcz : ¬ (t > (n : Int)) := hc
      have hpop : popD n op = t :: r := by rw [← H3.out]; simp only [popD]; rw [if_neg hc]
      go_wp2_with fail
      go_quiet (fail)
      go_wp2_with fail
      refine bodyPost_end (v := .tuple #[]) (by simp [results, Tryd.results21, go_sem]) rfl ⟨rfl, ?_, HBW.out.trans (drew_below _ _ _)⟩
      rw [hpop, ← H5.out]
      exact LX.drew ⟨_, _, HV.out⟩ _
end Go.Proofs.YtcjomeghcihecaaDoor
