/- Rows of elements of several cells, read cell by cell; what of a function was not looked into: names and constants; regions as cells. -/
import Derived.Test.YtnniohimbmnapaaDoorFMem
import Derived.Test.YtnniohimbmnapaaDoorAppS
namespace Go.Proofs.YtnniohimbmnapaaDoor
open Go.ChangeShapes Go.WideShapes Go.RowKit
set_option linter.unusedVariables false
set_option linter.unusedSimpArgs false
/-- The slice value v has n elements of sz cells each: xs. -/
def Cr (sz : Nat) (w : World) (v : Value) (n : Nat) (xs : List Value) : Prop :=
  xs.length = n * sz ∧ ((∃ p, v = .slice p 0 0 ∧ n = 0) ∨ ∃ b off c, v = .slice (some ⟨b, off, none⟩) n c ∧ n ≤ c ∧ ∀ j u, xs[j]? = some u → w.cell? ⟨b, off + j, none⟩ = some u)
theorem Cr.keep {sz : Nat} {w w' : World} {v : Value} {n : Nat} {xs : List Value} (h : Cr sz w v n xs) (hb : Below w.heap.size w w') : Cr sz w' v n xs := by
  obtain ⟨hl, h | ⟨b, off, c, rfl, h1, h2⟩⟩ := h
  · exact ⟨hl, .inl h⟩
  · exact ⟨hl, .inr ⟨b, off, c, rfl, h1, fun j u hj => below_cell hb (h2 j u hj)⟩⟩
theorem cr_form {sz : Nat} {w : World} {v : Value} {n : Nat} {xs : List Value} (h : Cr sz w v n xs) : ∃ p c, v = .slice p n c ∧ n ≤ c ∧ xs.length = n * sz ∧
    (0 < n → ∃ b off, p = some ⟨b, off, none⟩ ∧ ∀ j u, xs[j]? = some u → w.cell? ⟨b, off + j, none⟩ = some u) := by
  obtain ⟨hl, ⟨p, rfl, rfl⟩ | ⟨b, off, c, rfl, h1, h2⟩⟩ := h
  · exact ⟨p, 0, rfl, Nat.le_refl _, hl, fun h => by omega⟩
  · exact ⟨_, c, rfl, h1, hl, fun _ => ⟨b, off, rfl, h2⟩⟩
theorem Cr.of_owns {sz B : Nat} {w : World} {e : TypeId} {v : Value} {n : Nat} {xs : List Value} (h : w.ownsRow B e sz v n xs) : Cr sz w v n xs := by
  rcases h.2 with ⟨rfl, h2⟩ | ⟨g, c, cur, rfl, hg, r1, r2, r3, r4, r5⟩
  · exact ⟨h.1, .inl ⟨none, rfl, h2⟩⟩
  · refine ⟨h.1, .inr ⟨g, 0, c, rfl, r2, fun j u hj => ?_⟩⟩
    have hj' : j < n * sz := by have := (List.getElem?_eq_some_iff.1 hj).1; rw [h.1] at this; exact this
    have e := congrArg (fun l => l[j]?) r5
    simp only [List.getElem?_take, hj] at e
    rw [if_pos hj', Array.getElem?_toList] at e
    simp [World.cell?, r1, e]
theorem Cr.srcS {sz : Nat} {w : World} {p : Option Addr} {n c : Nat} {xs : List Value} (h : Cr sz w (.slice p n c) n xs) (hp : p = none → n = 0 ∧ c = 0) : SrcS sz w (.slice p n c) n xs := by
  obtain ⟨hl, ⟨p', he, rfl⟩ | ⟨b, off, c', he, h1, h2⟩⟩ := h
  · simp only [Value.slice.injEq, true_and] at he
    obtain ⟨rfl, rfl⟩ := he
    cases p with
    | none => exact ⟨hl, .inl ⟨rfl, rfl⟩⟩
    | some a =>
      obtain rfl := List.eq_nil_of_length_eq_zero (by simpa using hl)
      exact ⟨hl, .inr ⟨a, 0, rfl, fun j u hj => by simp at hj⟩⟩
  · simp only [Value.slice.injEq, true_and] at he
    obtain ⟨rfl, rfl⟩ := he
    refine ⟨hl, .inr ⟨⟨b, off, none⟩, c, rfl, fun j u hj => ?_⟩⟩
    rw [show (⟨b, off, none⟩ : Addr).add j = ⟨b, off + j, none⟩ by unfold Addr.add; split <;> simp_all]
    exact h2 j u hj
def cellsL (W : World) (b off k : Nat) : List Value := (List.range k).map fun j => (W.cell? ⟨b, off + j, none⟩).getD (.bool false)
theorem cellsL_at {W : World} {b off k j : Nat} {u : Value} (hj : j < k) (h : W.cell? ⟨b, off + j, none⟩ = some u) : (cellsL W b off k)[j]? = some u := by
  unfold cellsL
  rw [List.getElem?_map, List.getElem?_range hj]
  simp [h]
theorem cr_cells {W : World} {b off sz n c : Nat} (hnc : n ≤ c) (h : ∀ j, j < n * sz → ∃ u, W.cell? ⟨b, off + j, none⟩ = some u) : Cr sz W (.slice (some ⟨b, off, none⟩) n c) n (cellsL W b off (n * sz)) :=
  ⟨by simp [cellsL], .inr ⟨b, off, c, rfl, hnc, fun j u hj => by
    have hj' : j < n * sz := by have := (List.getElem?_eq_some_iff.1 hj).1; simpa [cellsL] using this
    obtain ⟨u', hu⟩ := h j hj'
    rw [cellsL_at hj' hu] at hj
    rw [hu]; exact hj⟩⟩
/-- The names of a function. -/
def Nm (w : World) (r : RestV) (xs : List Value) : Prop := Cr 1 w (.slice r.np r.nn r.nc) r.nn xs ∧ (∀ i, i < r.nn → ∃ s, xs[i]? = some (.string s)) ∧ r.nn ≤ 1048576 ∧ (r.np = none → r.nc = 0)
/-- Its constants. -/
def Cn (w : World) (r : RestV) (xs : List Value) : Prop := Cr 2 w (.slice r.cp r.cn r.cc) r.cn xs ∧ (∀ i, i < r.cn → (∃ a : Int, xs[i * 2]? = some (.int .i64 a)) ∧ ∃ s, xs[i * 2 + 1]? = some (.string s)) ∧ r.cn ≤ 1048576 ∧ (r.cp = none → r.cc = 0)
theorem Nm.keep {w w' : World} {r : RestV} {xs : List Value} (h : Nm w r xs) (hb : Below w.heap.size w w') : Nm w' r xs := ⟨h.1.keep hb, h.2⟩
theorem Cn.keep {w w' : World} {r : RestV} {xs : List Value} (h : Cn w r xs) (hb : Below w.heap.size w w') : Cn w' r xs := ⟨h.1.keep hb, h.2⟩
/-- Regions, cell by cell. -/
def flatR : List RegD → List Value
  | [] => []
  | q :: r => .int .i64 q.lo :: .int .i64 q.hi :: .int .i64 q.to :: .int .i64 q.d :: flatR r
theorem flatR_len : ∀ (us : List RegD), (flatR us).length = us.length * 4
  | [] => rfl
  | q :: r => by simp [flatR, flatR_len r]; omega
theorem flatR_at : ∀ (us : List RegD) (i : Nat), i < us.length → (flatR us)[i * 4]? = some (.int .i64 (us.getD i regZ).lo) ∧ (flatR us)[i * 4 + 1]? = some (.int .i64 (us.getD i regZ).hi) ∧ (flatR us)[i * 4 + 2]? = some (.int .i64 (us.getD i regZ).to) ∧ (flatR us)[i * 4 + 3]? = some (.int .i64 (us.getD i regZ).d)
  | q :: r, 0, _ => by simp [flatR]
  | q :: r, i + 1, h => by
    have ih := flatR_at r i (by simpa using h)
    rw [show (i + 1) * 4 = i * 4 + 4 by omega, show i * 4 + 4 + 1 = i * 4 + 1 + 4 by omega, show i * 4 + 4 + 2 = i * 4 + 2 + 4 by omega, show i * 4 + 4 + 3 = i * 4 + 3 + 4 by omega]
    simpa [flatR] using ih
theorem Rg.cr {w : World} {v : Value} {rs : List RegD} (h : Rg w v rs) : Cr 4 w v rs.length (flatR rs) := by
  refine ⟨flatR_len rs, ?_⟩
  rcases h with ⟨p, rfl, rfl⟩ | ⟨b, off, c, rfl, h1, h2, h3⟩
  · exact .inl ⟨p, rfl, rfl⟩
  · refine .inr ⟨b, off, c, rfl, h1, fun j u hj => ?_⟩
    have hj' : j < rs.length * 4 := by have := (List.getElem?_eq_some_iff.1 hj).1; rw [flatR_len] at this; exact this
    obtain ⟨q, m, rfl, hm⟩ : ∃ q m, j = q * 4 + m ∧ m < 4 := ⟨j / 4, j % 4, by omega, by omega⟩
    have hq : q < rs.length := by omega
    obtain ⟨a0, a1, a2, a3⟩ := h3 q hq
    obtain ⟨b0, b1, b2, b3⟩ := flatR_at rs q hq
    rw [← Nat.add_assoc]
    match m, hm with
    | 0, _ => rw [Nat.add_zero] at hj ⊢; rw [b0] at hj; rw [a0]; exact hj
    | 1, _ => rw [b1] at hj; rw [a1]; exact hj
    | 2, _ => rw [b2] at hj; rw [a2]; exact hj
    | 3, _ => rw [b3] at hj; rw [a3]; exact hj
theorem Cr.rg {w : World} {v : Value} {rs : List RegD} (h : Cr 4 w v rs.length (flatR rs)) (hl : rs.length ≤ 4398046511104) : Rg w v rs := by
  obtain ⟨_, ⟨p, rfl, h0⟩ | ⟨b, off, c, rfl, h1, h2⟩⟩ := h
  · exact .inl ⟨p, rfl, List.length_eq_zero_iff.1 h0⟩
  · refine .inr ⟨b, off, c, rfl, h1, hl, fun i hi => ?_⟩
    obtain ⟨b0, b1, b2, b3⟩ := flatR_at rs i hi
    exact ⟨h2 _ _ b0, by rw [Nat.add_assoc]; exact h2 _ _ b1, by rw [Nat.add_assoc]; exact h2 _ _ b2, by rw [Nat.add_assoc]; exact h2 _ _ b3⟩
/-- Numbers, cell by cell. -/
theorem Ri.cr {w : World} {v : Value} {ws : List Int} (h : Ri w v ws) : Cr 1 w v ws.length (ws.map (Value.int .i64)) := by
  refine ⟨by simp, ?_⟩
  rcases h with ⟨p, rfl, rfl⟩ | ⟨b, off, c, rfl, h1, h2, h3⟩
  · exact .inl ⟨p, rfl, rfl⟩
  · refine .inr ⟨b, off, c, rfl, h1, fun j u hj => ?_⟩
    have hj' : j < ws.length := by have := (List.getElem?_eq_some_iff.1 hj).1; simpa using this
    rw [h3 j hj', ← hj, List.getElem?_map, List.getElem?_eq_getElem hj', List.getD_eq_getElem?_getD, List.getElem?_eq_getElem hj']
    rfl
end Go.Proofs.YtnniohimbmnapaaDoor
