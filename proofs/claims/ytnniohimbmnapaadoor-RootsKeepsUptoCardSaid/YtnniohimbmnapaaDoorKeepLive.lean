/- Layer 10: what Live answers, as rows in ranges of their own. -/
import Derived.Test.YtnniohimbmnapaaDoorFBits
import Derived.Test.YtnniohimbmnapaaDoorApRows
namespace Go.Proofs.YtnniohimbmnapaaDoor
open Go Go.ChangeShapes Go.WideShapes Go.RowKit
set_option linter.unusedVariables false
set_option linter.unusedSimpArgs false
/-- An answer of rows that share nothing. -/
def KeepA (Q : List (List Nat) → Prop) (ec : Int) (w : World) (e : Ending) (B : World) : Prop :=
  ∃ p n c vals L, e = .returned (.tuple #[.slice p n c, .int .i64 ec]) ∧ vals.length = n ∧ n ≤ 1048576 ∧ Src B (.slice p n c) n vals ∧ (∀ u ∈ vals, u.oneCell' = true) ∧ RowsA B w.heap.size vals ∧ Rr B (.slice p n c) L ∧ Q L ∧ Below w.heap.size w B
def QL (F : FuncD) (L : List (List Nat)) : Prop := if soundB F then OkL (grOf F) L ∧ ∀ y, y < F.ins.length → ∀ q, hasW (L.getD y []) q = true ↔ Lv (grOf F) y q else L = []
def ecL (F : FuncD) : Int := if soundB F then 0 else 3
theorem QL.uniq {F : FuncD} {L L' : List (List Nat)} (h : QL F L) (h' : QL F L') : L = L' := by
  unfold QL at h h'
  by_cases hs : soundB F = true
  · rw [if_pos hs] at h h'
    exact rows_ext h.1 h'.1 fun y hy q _ => by rw [Bool.eq_iff_iff]; exact (h.2 y hy q).trans (h'.2 y hy q).symm
  · rw [if_neg hs] at h h'
    rw [h, h']
theorem keep_none (Q : List (List Nat) → Prop) (ec : Int) (w B : World) (hQ : Q []) (hb : Below w.heap.size w B) : KeepA Q ec w (.returned (.tuple #[.slice none 0 0, .int .i64 ec])) B :=
  ⟨none, 0, 0, [], [], rfl, rfl, by omega, ⟨rfl, .inl ⟨rfl, rfl⟩⟩, fun u hu => by simp at hu, RowsA.nil, ⟨none, 0, rfl, by simp, fun i hi => by simp at hi⟩, hQ, hb⟩
theorem Blk.wr {A : World} {b : Nat} {cs : List Value} {T : TypeId} (h : Blk A b cs T) {i : Nat} (hi : i < cs.length) : Wr A b i :=
  ⟨by rw [h.cell (v := cs[i]) (List.getElem?_eq_getElem hi)]; rfl, h.frozen i⟩
theorem src_of_blk {A : World} {b n : Nat} {cs : List Value} {T : TypeId} (h : Blk A b cs T) (hn : cs.length = n) : Src A (.slice (some ⟨b, 0, none⟩) n n) n cs := by
  subst hn
  have := src_block (c := cs.length) (b := b) (cs := cs.toArray) h
  simpa using this
theorem live_keep (r : RestV) (F : FuncD) (iv rv : Value) (w : World) (hU : Us w) (hI : Ii w iv F.ins) (hR : Rg w rv F.regions) (hnn : F.ins.length ≤ 1048576) :
    Calls Tryd.prog 23 #[funcV r F iv rv] w (KeepA (QL F) (ecL F) w) := by
  refine (live_any r F iv rv w hU hI hR hnn).mono fun e B h => ?_
  unfold LivePost at h
  by_cases hs : soundB F = true
  · rw [if_pos hs] at h
    obtain ⟨Y, tg, FV, FF, wv, L, wt, work, sc, rfl, hlk, hok, hlv, hb⟩ := h
    have hn : L.length = F.ins.length := hok.len
    have hss : (grOf F).s ≤ 1024 := by
      have := (soundF hs).r1
      show (F.regs.toNat + 63) / 64 ≤ 1024
      omega
    have hli := hlk.live (fun e => by cases e)
    have hcl : (liveC Y F.ins.length F.ins.length (grOf F).s).length = F.ins.length := by simp [liveC]
    have hat : ∀ i, i < F.ins.length → (liveC Y F.ins.length F.ins.length (grOf F).s).getD i vz = .slice (some ⟨Y.rho i, 0, none⟩) (grOf F).s (grOf F).s := fun i hi => by
      rw [List.getD_eq_getElem?_getD, liveC_at Y hi hi]; rfl
    rw [show ecL F = 0 from if_pos hs]
    refine ⟨_, _, _, liveC Y F.ins.length F.ins.length (grOf F).s, L, rfl, hcl, hnn, src_of_blk hli hcl, fun u hu => ?_, ⟨fun i hi => ?_, fun i j b o hi hj h1 h2 => ?_⟩, ⟨_, F.ins.length, by rw [hn], by omega, fun i hi => ?_⟩, (by unfold QL; rw [if_pos hs]; exact ⟨hok, hlv⟩), hb⟩
    · obtain ⟨i, hi, rfl⟩ := List.mem_iff_getElem.1 hu
      have := hat i (by omega)
      rw [List.getD_eq_getElem?_getD, List.getElem?_eq_getElem hi] at this
      simp only [Option.getD_some] at this
      rw [this]; rfl
    · rw [hcl] at hi
      rw [hat i hi]
      have hro := hlk.row i hi (fun e => by cases e)
      have hrow := hok.row i hi
      exact .inr ⟨_, 0, _, _, rfl, Nat.le_refl _, (hlk.tgs.row i hi).2.1, fun j hj => by rw [Nat.zero_add]; exact hro.wr (by rw [List.length_map, hrow.len]; exact hj), by omega⟩
    · rw [hcl] at hi hj
      rw [hat i hi] at h1
      rw [hat j hj] at h2
      obtain ⟨o1, n1, c1, e1, _⟩ := h1
      obtain ⟨o2, n2, c2, e2, _⟩ := h2
      simp only [Value.slice.injEq, Option.some.injEq, Addr.mk.injEq] at e1 e2
      have t1 := (hlk.tgs.row i hi).1
      have t2 := (hlk.tgs.row j hj).1
      rw [e1.1.1] at t1
      rw [e2.1.1] at t2
      omega
    · rw [hn] at hi
      have hro := hlk.row i hi (fun e => by cases e)
      have hrow := hok.row i hi
      refine ⟨Y.bL, 0, _, rfl, hli.cell (i := 0 + i) (by rw [Nat.zero_add]; exact liveC_at Y hi hi), ?_⟩
      have h2 := hro.rw_ hrow.lt (by have := hrow.len; omega)
      rw [hrow.len] at h2
      exact h2
  · rw [if_neg hs] at h
    obtain ⟨rfl, hb⟩ := h
    rw [show ecL F = 3 from if_neg hs]
    exact keep_none _ _ _ _ (by unfold QL; rw [if_neg hs]) hb
end Go.Proofs.YtnniohimbmnapaaDoor
