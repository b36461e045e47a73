/- Layer 2: whole.DivMod: what it answers, and the numbers behind it. -/
import Derived.Test.YticebchmafipiaaDoorWDivBox
namespace Go.Proofs.YticebchmafipiaaDoor
open Go.ChangeShapes Go.WideShapes Go.ChangeAt Go.RowKit
set_option linter.unusedVariables false
set_option linter.unusedSimpArgs false
def DMPost (W : World) (z1 z2 : Int) (e : Ending) (w' : World) : Prop :=
  ∃ nq uq qs zq nr ur rs zr, e = .returned (.tuple #[.agg #[.bool nq, uq], .agg #[.bool nr, ur], .int .i64 0]) ∧ MU w' W.heap.size uq qs ∧ MU w' W.heap.size ur rs ∧ Sgn B18 nq qs zq ∧ Sgn B18 nr rs zr ∧
    z1 = zq * z2 + zr ∧ ((0 ≤ zr ∧ zr < z2) ∨ (z2 < zr ∧ zr ≤ 0)) ∧ Below W.heap.size W w'
/-- The same, and quotient and rest lie in different blocks. -/
def DMPost2 (W : World) (z1 z2 : Int) (e : Ending) (w' : World) : Prop :=
  ∃ M nq uq qs zq nr ur rs zr, e = .returned (.tuple #[.agg #[.bool nq, uq], .agg #[.bool nr, ur], .int .i64 0]) ∧ MR w' W.heap.size M uq qs ∧ MU w' M ur rs ∧ W.heap.size ≤ M ∧ Sgn B18 nq qs zq ∧ Sgn B18 nr rs zr ∧
    z1 = zq * z2 + zr ∧ ((0 ≤ zr ∧ zr < z2) ∨ (z2 < zr ∧ zr ≤ 0)) ∧ Below W.heap.size W w'
theorem DMPost2.one {W : World} {z1 z2 : Int} {e : Ending} {w' : World} (h : DMPost2 W z1 z2 e w') : DMPost W z1 z2 e w' := by
  obtain ⟨M, nq, uq, qs, zq, nr, ur, rs, zr, h1, h2, h3, h4, h5, h6, h7, h8, h9⟩ := h
  exact ⟨nq, uq, qs, zq, nr, ur, rs, zr, h1, h2.mu, Mine.low h3 h4, h5, h6, h7, h8, h9⟩
theorem floor_same (n1 n2 : Bool) {X Q V R : Int} (h : X = Q * V + R) (h0 : 0 ≤ R) (h1 : R < V) (hs : R = 0 ∨ n1 = n2) :
    sg n1 X = sg (n1 != n2) Q * sg n2 V + sg n1 R ∧ ((0 ≤ sg n1 R ∧ sg n1 R < sg n2 V) ∨ (sg n2 V < sg n1 R ∧ sg n1 R ≤ 0)) := by
  subst h
  cases n1 <;> cases n2 <;> simp [sg, Int.neg_mul, Int.mul_neg, Int.neg_neg] at hs ⊢ <;> omega
theorem floor_diff (n1 n2 : Bool) {X Q V R : Int} (h : X = Q * V + R) (h0 : 0 < R) (h1 : R < V) (hs : n1 ≠ n2) :
    sg n1 X = sg true (Q + 1) * sg n2 V + sg n2 (V - R) ∧ ((0 ≤ sg n2 (V - R) ∧ sg n2 (V - R) < sg n2 V) ∨ (sg n2 V < sg n2 (V - R) ∧ sg n2 (V - R) ≤ 0)) := by
  subst h
  cases n1 <;> cases n2 <;> simp [sg, Int.add_mul, Int.neg_add, Int.neg_mul, Int.mul_neg, Int.neg_neg] at hs ⊢ <;> omega
theorem MU.len {w : World} {B0 n c : Nat} {p : Option Addr} {ws : List Int} (h : MU w B0 (.slice p n c) ws) : n = ws.length := by
  rcases h with ⟨e, rfl⟩ | ⟨g, c', cur, e, _⟩
  · simp only [Value.slice.injEq] at e; simp [e.2.1]
  · simp only [Value.slice.injEq] at e; exact e.2.1
/-- Both results stored into their boxes. -/
theorem four_set {w : World} {B C : Nat} {a0 a1 b0 b1 : Value} (hn : B ≠ C) (x0 x1 y0 y1 : Value) (h0 : w.cell? ⟨B, 0, none⟩ = some a0) (h1 : w.cell? ⟨B, 1, none⟩ = some a1) (h2 : w.cell? ⟨C, 0, none⟩ = some b0) (h3 : w.cell? ⟨C, 1, none⟩ = some b1) :
    ((((w.setCell ⟨B, 0, none⟩ x0).setCell ⟨B, 1, none⟩ x1).setCell ⟨C, 0, none⟩ y0).setCell ⟨C, 1, none⟩ y1).cell? ⟨B, 0, none⟩ = some x0 ∧
    ((((w.setCell ⟨B, 0, none⟩ x0).setCell ⟨B, 1, none⟩ x1).setCell ⟨C, 0, none⟩ y0).setCell ⟨C, 1, none⟩ y1).cell? ⟨B, 1, none⟩ = some x1 ∧
    ((((w.setCell ⟨B, 0, none⟩ x0).setCell ⟨B, 1, none⟩ x1).setCell ⟨C, 0, none⟩ y0).setCell ⟨C, 1, none⟩ y1).cell? ⟨C, 0, none⟩ = some y0 ∧
    ((((w.setCell ⟨B, 0, none⟩ x0).setCell ⟨B, 1, none⟩ x1).setCell ⟨C, 0, none⟩ y0).setCell ⟨C, 1, none⟩ y1).cell? ⟨C, 1, none⟩ = some y1 := by
  have z := two_setW (x0 := x0) (x1 := x1) h0 h1
  have y := two_setW (x0 := y0) (x1 := y1) (cell_set2 (Ne.symm hn) h2 x0 x1) (cell_set2 (Ne.symm hn) h3 x0 x1)
  exact ⟨cell_set2 hn z.1 _ _, cell_set2 hn z.2 _ _, y.1, y.2⟩
theorem DMPost2.mk {W w w' : World} {B C L M : Nat} {z1 z2 zq zr : Int} {nq nr : Bool} {uq ur : Value} {qs rs : List Int} (x0 x1 y0 y1 : Value)
    (hq : MR w L M uq qs) (hr : MU w M ur rs) (hLM : L ≤ M) (hB : W.heap.size ≤ B) (hC : W.heap.size ≤ C) (lB : B < L) (lC : C < L) (hsq : Sgn B18 nq qs zq) (hsr : Sgn B18 nr rs zr) (he : z1 = zq * z2 + zr) (hb : (0 ≤ zr ∧ zr < z2) ∨ (z2 < zr ∧ zr ≤ 0)) (hw : Below W.heap.size W w)
    (hw' : w' = ((((w.setCell ⟨B, 0, none⟩ x0).setCell ⟨B, 1, none⟩ x1).setCell ⟨C, 0, none⟩ y0).setCell ⟨C, 1, none⟩ y1).drew) :
    DMPost2 W z1 z2 (.returned (.tuple #[.agg #[.bool nq, uq], .agg #[.bool nr, ur], .int .i64 0])) w' := by
  subst hw'
  have hq' : MR (((((w.setCell ⟨B, 0, none⟩ x0).setCell ⟨B, 1, none⟩ x1).setCell ⟨C, 0, none⟩ y0).setCell ⟨C, 1, none⟩ y1).drew) L M uq qs := (hq.set2 lB x0 x1).set2 lC y0 y1
  have hr' : MU (((((w.setCell ⟨B, 0, none⟩ x0).setCell ⟨B, 1, none⟩ x1).setCell ⟨C, 0, none⟩ y0).setCell ⟨C, 1, none⟩ y1).drew) M ur rs := (hr.set2 (Nat.lt_of_lt_of_le lB hLM) x0 x1).set2 (Nat.lt_of_lt_of_le lC hLM) y0 y1
  exact ⟨M, nq, uq, qs, zq, nr, ur, rs, zr, rfl, MR.lo hq' (by omega), hr', by omega, hsq, hsr, he, hb, ((((hw.setCell hB _).setCell hB _).setCell hC _).setCell hC _).drew⟩
end Go.Proofs.YticebchmafipiaaDoor
