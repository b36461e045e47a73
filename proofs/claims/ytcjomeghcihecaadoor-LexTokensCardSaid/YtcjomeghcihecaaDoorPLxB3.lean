/- Layer 4: what the law LexJoins wants besides. -/
import Derived.Test.YtcjomeghcihecaaDoorPLxB2
namespace Go.Proofs.YtcjomeghcihecaaDoor
open Go Go.ChangeShapes Go.WideShapes Go.ChangeAt Go.RowKit Go.PlainAid Go.Maps
set_option linter.unusedVariables false
set_option linter.unusedSimpArgs false
theorem o8_snoc {B : Nat} {w : World} {v : Value} {l : Bs} (h : O8 B w v l) (hB : B ≤ w.heap.size) (hl : l.length ≤ 140737488355000) (c : UInt8) (ty : TypeId) :
    ∃ v' w', (Builtin.append_ #[22, 22] ty #[v, .slice (some ⟨w.heap.size, 0, none⟩) 1 1]).run Tryd.prog (w.alloc (.cells #[.int .u8 c.toNat] 5)) = .ok v' w' ∧ O8 B w' v' (l ++ [c]) ∧ Below B w w' := by
  have hB' : B ≤ (w.alloc (.cells #[.int .u8 c.toNat] 5)).heap.size := by simp; omega
  have hb1 : Below B w (w.alloc (.cells #[.int .u8 c.toNat] 5)) := (Below.refl _ _).alloc hB _
  have hc : c8 [c] = [.int .u8 c.toNat] := rfl
  obtain ⟨v', w', hrun, hap⟩ := run_app (P := Tryd.prog) (w := w.alloc (.cells #[.int .u8 c.toNat] 5)) (base := B) (ty := ty) (t := 22) (v := v) (x := .slice (some ⟨w.heap.size, 0, none⟩) 1 1) Tryd.underlying22 infoU8L rfl (h.alloc _) (src_oneL rfl) (by simp [Value.oneCell']) (by unfold maxLen; omega) (by omega) hB'
  refine ⟨v', w', hrun, ?_, hb1.trans (hap.below hB' fun q hq => (owns_lt h hq).1)⟩
  have h1 := hap.own
  unfold O8
  rw [c8_app, List.length_append, hc]
  exact h1
theorem lex_ne {l : Bs} {ts : List Tk} (h : lexD l = .ok ts) : ts ≠ [] := by
  unfold lexD at h
  split at h
  · cases h
  · cases hp : rowsD 1 ⟨0, [0]⟩ (splitB l) with
    | error e => rw [hp] at h; cases h
    | ok q =>
      rw [hp] at h
      simp only [Except.ok.injEq] at h
      rw [← h]
      simp
theorem sl_to3 {P : Program} (t : TypeId) (ht : P.underlying t = some (.slice (P.elem t))) (hsz : ∀ wx, (sizeOf (P.elem t)).run P wx = .ok 3 wx) (b off n c hi : Nat) (h : hi ≤ c) :
    ∀ wx, (Instr.slice t (.slice (some ⟨b, off, none⟩) n c) none (some (.int .i64 (hi : Int))) none).run P wx = .ok (.slice (some ⟨b, off, none⟩) hi c) wx := fun wx => by
  rw [run_slice_h wx t _ n c ht .i64 (hi : Int) (by omega) (by omega), hsz]
  simp [Result.andThen, sliced, Addr.add]
/-- The slice's first token's kind, and the others. -/
theorem tok_kind {w : World} {b off : Nat} {ts : List Tk} (h : ∀ i, i < ts.length → w.cell? ⟨b, off + i * 3, none⟩ = some (.int .i64 (ts.getD i tkZ).kind) ∧ w.cell? ⟨b, off + i * 3 + 1, none⟩ = some (.int .i64 (ts.getD i tkZ).line) ∧ w.cell? ⟨b, off + i * 3 + 2, none⟩ = some (.string (bsOf (ts.getD i tkZ).text)))
    {i : Nat} {t : Tk} (ht : ts[i]? = some t) : w.cell? ⟨b, off + i * 3, none⟩ = some (.int .i64 t.kind) ∧ w.cell? ⟨b, off + i * 3 + 1, none⟩ = some (.int .i64 t.line) ∧ w.cell? ⟨b, off + i * 3 + 2, none⟩ = some (.string (bsOf t.text)) := by
  have hi := (List.getElem?_eq_some_iff.1 ht).1
  have e : ts.getD i tkZ = t := by rw [List.getD_eq_getElem?_getD, ht]; rfl
  have := h i hi
  rw [e] at this
  exact this
end Go.Proofs.YtcjomeghcihecaaDoor
