/- Apart of rows that lie in ranges of their own: the colours are made here. -/
import Derived.Test.YtnniohimbmnapaaDoorApart
namespace Go.Proofs.YtnniohimbmnapaaDoor
open Go Go.ChangeShapes Go.WideShapes Go.RowKit
set_option linter.unusedVariables false
set_option linter.unusedSimpArgs false
/-- Cell (b, o) lies in the slice value's room. -/
def Rng (v : Value) (b o : Nat) : Prop := ∃ off n c, v = .slice (some ⟨b, off, none⟩) n c ∧ off ≤ o ∧ o < off + c
/-- A list of words that may be written, not below S0. -/
def RowW (w : World) (S0 : Nat) (v : Value) : Prop :=
  (∃ p, v = .slice p 0 0) ∨ ∃ b off n c, v = .slice (some ⟨b, off, none⟩) n c ∧ n ≤ c ∧ S0 ≤ b ∧ (∀ j, j < c → Wr w b (off + j)) ∧ n ≤ 8796093022208
/-- Lists of words in ranges of their own. -/
structure RowsA (w : World) (S0 : Nat) (vs : List Value) : Prop where
  row : ∀ i, i < vs.length → RowW w S0 (vs.getD i vz)
  disj : ∀ i j b o, i < vs.length → j < vs.length → Rng (vs.getD i vz) b o → Rng (vs.getD j vz) b o → i = j
section
variable {w w' : World} {S0 S1 : Nat} {vs us : List Value} {v : Value}
theorem RowW.keep (h : RowW w S0 v) (hb : Below w.heap.size w w') : RowW w' S0 v := by
  rcases h with h | ⟨b, off, n, c, rfl, h1, h2, h3, h4⟩
  · exact .inl h
  · exact .inr ⟨b, off, n, c, rfl, h1, h2, fun j hj => (h3 j hj).block (hb.block _ (h3 j hj).lt), h4⟩
theorem RowsA.keep (h : RowsA w S0 vs) (hb : Below w.heap.size w w') : RowsA w' S0 vs := ⟨fun i hi => (h.row i hi).keep hb, h.disj⟩
theorem RowW.low (h : RowW w S0 v) (hS : S1 ≤ S0) : RowW w S1 v := by
  rcases h with h | ⟨b, off, n, c, rfl, h1, h2, h3, h4⟩
  · exact .inl h
  · exact .inr ⟨b, off, n, c, rfl, h1, by omega, h3, h4⟩
theorem RowW.rng (h : RowW w S0 v) {b o : Nat} (hr : Rng v b o) : S0 ≤ b ∧ b < w.heap.size := by
  obtain ⟨off, n, c, rfl, h1, h2⟩ := hr
  rcases h with ⟨p, h⟩ | ⟨b', off', n', c', he, _, h3, h4, _⟩
  · simp only [Value.slice.injEq] at h; omega
  · simp only [Value.slice.injEq, Option.some.injEq, Addr.mk.injEq, and_true] at he
    obtain ⟨⟨rfl, rfl⟩, rfl, rfl⟩ := he
    exact ⟨h3, (h4 0 (by omega)).lt⟩
theorem RowsA.nil : RowsA w S0 [] := ⟨fun i hi => by simp at hi, fun i j b o hi => by simp at hi⟩
/-- Older lists and newer ones. -/
theorem RowsA.append (h : RowsA w S0 vs) (hs : w.heap.size ≤ S1) (hb : Below w.heap.size w w') (g : RowsA w' S1 us) (h01 : S0 ≤ S1) : RowsA w' S0 (vs ++ us) := by
  have hl : ∀ i, i < vs.length → (vs ++ us).getD i vz = vs.getD i vz := fun i hi => by
    rw [List.getD_eq_getElem?_getD, List.getElem?_append_left hi, ← List.getD_eq_getElem?_getD]
  have hr : ∀ i, ¬ i < vs.length → (vs ++ us).getD i vz = us.getD (i - vs.length) vz := fun i hi => by
    rw [List.getD_eq_getElem?_getD, List.getElem?_append_right (by omega), ← List.getD_eq_getElem?_getD]
  refine ⟨fun i hi => ?_, fun i j b o hi hj h1 h2 => ?_⟩
  · rw [List.length_append] at hi
    by_cases e : i < vs.length
    · rw [hl i e]; exact (h.row i e).keep hb
    · rw [hr i e]; exact (g.row _ (by omega)).low h01
  · rw [List.length_append] at hi hj
    by_cases e1 : i < vs.length
    · rw [hl i e1] at h1
      by_cases e2 : j < vs.length
      · rw [hl j e2] at h2; exact h.disj i j b o e1 e2 h1 h2
      · rw [hr j e2] at h2
        have := (h.row i e1).rng h1
        have := (g.row _ (by omega)).rng h2
        omega
    · rw [hr i e1] at h1
      by_cases e2 : j < vs.length
      · rw [hl j e2] at h2
        have := (h.row j e2).rng h2
        have := (g.row _ (by omega)).rng h1
        omega
      · rw [hr j e2] at h2
        have := g.disj _ _ b o (by omega) (by omega) h1 h2
        omega
def nsOf : Value → Nat
  | .slice _ n _ => n
  | _ => 0
/-- What Apart asks for. -/
theorem RowsA.ahyp {B c : Nat} {p : Option Addr} {T : TypeId} (h : RowsA w S0 vs) (hS : S0 ≤ w.heap.size) (hlen : vs.length ≤ 4194304) (hown : w.ownsRow B T 1 (.slice p vs.length c) vs.length vs) (hB : ∀ i b o, i < vs.length → Rng (vs.getD i vz) b o → b < B) :
    ∃ tg ns, AHyp w tg S0 p vs ns := by
  classical
  let tg : Nat → Nat → Nat := fun b o => if hx : ∃ i, i < vs.length ∧ Rng (vs.getD i vz) b o then Classical.choose hx + 1 else 0
  have ht : ∀ i b o, i < vs.length → Rng (vs.getD i vz) b o → tg b o = i + 1 := fun i b o hi hr => by
    have hx : ∃ i, i < vs.length ∧ Rng (vs.getD i vz) b o := ⟨i, hi, hr⟩
    show (if hx : ∃ i, i < vs.length ∧ Rng (vs.getD i vz) b o then Classical.choose hx + 1 else 0) = i + 1
    rw [dif_pos hx]
    have := Classical.choose_spec hx
    rw [h.disj _ _ b o this.1 hi this.2 hr]
  have h0 : ∀ b o, (∀ i, i < vs.length → ¬ Rng (vs.getD i vz) b o) → tg b o = 0 := fun b o hn => by
    show (if hx : ∃ i, i < vs.length ∧ Rng (vs.getD i vz) b o then Classical.choose hx + 1 else 0) = 0
    rw [dif_neg]
    rintro ⟨i, hi, hr⟩
    exact hn i hi hr
  refine ⟨tg, fun k => nsOf (vs.getD k vz), fun i hi => ?_, fun k hk => ?_, fun b o hb => h0 b o fun i hi hr => ?_, hS, hlen, fun k hk => ?_⟩
  · rcases hown.2 with ⟨he, h2⟩ | ⟨g, c', cur, he, hg, r1, r2, r3, r4, r5⟩
    · omega
    · simp only [Value.slice.injEq] at he
      obtain ⟨rfl, _, rfl⟩ := he
      refine ⟨g, 0, rfl, (Array.getElem?_eq_some_iff.1 r1).1, h0 _ _ fun j hj hr => ?_, ?_⟩
      · have := hB j _ _ hj hr; omega
      · have e := congrArg (fun l => l[i]?) r5
        simp only [List.getElem?_take] at e
        rw [if_pos (by omega), Array.getElem?_toList, List.getElem?_eq_getElem hi] at e
        rw [List.getD_eq_getElem?_getD, List.getElem?_eq_getElem hi]
        simp [World.cell?, r1, e]
  · rcases h.row k hk with ⟨p, e⟩ | ⟨b, off, n, c', e, h1, h2, h3, h4⟩
    · rw [e]; exact .inl ⟨p, rfl, rfl⟩
    · rw [e]
      refine .inr ⟨b, off, c', rfl, h1, h2, fun i hi => ⟨ht k _ _ hk ?_, h3 i hi⟩, fun i hi => by omega⟩
      rw [e]
      exact ⟨off, n, c', rfl, by omega, by omega⟩
  · have := (h.row i hi).rng hr; omega
  · rcases h.row k hk with ⟨p, e⟩ | ⟨b, off, n, c', e, h1, h2, h3, h4⟩
    · rw [e]; simp [nsOf]
    · rw [e]; exact h4
end
end Go.Proofs.YtnniohimbmnapaaDoor
