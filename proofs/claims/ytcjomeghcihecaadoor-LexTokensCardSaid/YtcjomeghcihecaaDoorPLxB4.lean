/- Layer 4: rows of bytes: what an append leaves alone; a string's bytes appended; how many tokens there are. -/
import Derived.Test.YtcjomeghcihecaaDoorPLxB3
import Derived.Test.YtcjomeghcihecaaDoorPLxTx
import Derived.Lib.AppendStr
namespace Go.Proofs.YtcjomeghcihecaaDoor
open Go Go.ChangeShapes Go.WideShapes Go.ChangeAt Go.RowKit Go.PlainAid Go.Maps
set_option linter.unusedVariables false
set_option linter.unusedSimpArgs false
/-- Appending to v leaves block X as it is. -/
def KeepX (w w' : World) (v v' : Value) : Prop := ∀ X, X < w.heap.size → v.ownBlock ≠ some X → w'.heap[X]? = w.heap[X]? ∧ v'.ownBlock ≠ some X ∧ X < w'.heap.size
theorem o8_news {B : Nat} {w : World} {v : Value} {l : Bs} (h : O8 B w v l) (hB : B ≤ w.heap.size) {cs : Bs} (hl : l.length + cs.length ≤ 140737488355000) {ar : Array Value} (ha : ar = (c8 cs).toArray) {n : Nat} (hn : n = cs.length) (ty : TypeId) :
    ∃ v' w', (Builtin.append_ #[22, 22] ty #[v, .slice (some ⟨w.heap.size, 0, none⟩) n n]).run Tryd.prog (w.alloc (.cells ar 5)) = .ok v' w' ∧ O8 B w' v' (l ++ cs) ∧ Below B w w' ∧ KeepX w w' v v' := by
  subst ha
  subst hn
  have hB' : B ≤ (w.alloc (.cells (c8 cs).toArray 5)).heap.size := by simp; omega
  have hb1 : Below B w (w.alloc (.cells (c8 cs).toArray 5)) := (Below.refl _ _).alloc hB _
  have hsrc : Src (w.alloc (.cells (c8 cs).toArray 5)) (.slice (some ⟨w.heap.size, 0, none⟩) cs.length cs.length) cs.length (c8 cs) := by
    have h := src_top (w := w) (b := w.heap.size) (cs := (c8 cs).toArray) (T := 5) (c := cs.length) rfl
    simp only [List.size_toArray, c8_len] at h
    exact h
  obtain ⟨v', w', hrun, hap⟩ := run_app (P := Tryd.prog) (w := w.alloc (.cells (c8 cs).toArray 5)) (base := B) (ty := ty) (t := 22) (v := v) Tryd.underlying22 infoU8L rfl (h.alloc _) hsrc (c8_one cs) (by unfold maxLen; omega) (by omega) hB'
  refine ⟨v', w', hrun, ?_, hb1.trans (hap.below hB' fun q hq => (owns_lt h hq).1), fun X hX hv => ?_⟩
  · have h1 := hap.own
    unfold O8
    rw [c8_app, List.length_append]
    exact h1
  · have hX' : X < (w.alloc (.cells (c8 cs).toArray 5)).heap.size := by simp; omega
    refine ⟨(hap.grown.block X hX' (fun e => hv e.symm)).trans (Below.heap_alloc _ _ _ hX), ?_, ?_⟩
    · rcases hap.at_ with e | e
      · rw [e]; exact hv
      · rw [e]; intro h; injection h with h; omega
    · have := hap.grown.size; omega
theorem o8_snocK {B : Nat} {w : World} {v : Value} {l : Bs} (h : O8 B w v l) (hB : B ≤ w.heap.size) (hl : l.length ≤ 140737488354000) (c : UInt8) (ty : TypeId) :
    ∃ v' w', (Builtin.append_ #[22, 22] ty #[v, .slice (some ⟨w.heap.size, 0, none⟩) 1 1]).run Tryd.prog (w.alloc (.cells #[.int .u8 c.toNat] 5)) = .ok v' w' ∧ O8 B w' v' (l ++ [c]) ∧ Below B w w' ∧ KeepX w w' v v' :=
  o8_news h hB (cs := [c]) (by simp; omega) rfl rfl ty
theorem o8_snoc2 {B : Nat} {w : World} {v : Value} {l : Bs} (h : O8 B w v l) (hB : B ≤ w.heap.size) (hl : l.length ≤ 140737488354000) (c d : UInt8) (ty : TypeId) :
    ∃ v' w', (Builtin.append_ #[22, 22] ty #[v, .slice (some ⟨w.heap.size, 0, none⟩) 2 2]).run Tryd.prog (w.alloc (.cells #[.int .u8 c.toNat, .int .u8 d.toNat] 5)) = .ok v' w' ∧ O8 B w' v' (l ++ [c, d]) ∧ Below B w w' ∧ KeepX w w' v v' :=
  o8_news h hB (cs := [c, d]) (by simp; omega) rfl rfl ty
theorem strCells_bs (m : Bs) : Lib.strCells (bsOf m) = c8 m := by simp [Lib.strCells, bsOf, c8, ints8]
theorem o8_str {B : Nat} {w : World} {v : Value} {l m : Bs} (h : O8 B w v l) (hB : B ≤ w.heap.size) (hl : l.length + m.length ≤ 140737488355000) (ty : TypeId) :
    ∃ v' w', (Builtin.append_ #[22, 9] ty #[v, .string (bsOf m)]).run Tryd.prog w = .ok v' w' ∧ O8 B w' v' (l ++ m) ∧ Below B w w' := by
  obtain ⟨i, hi, hzz⟩ := Option.map_eq_some_iff.1 infoU8L
  simp only [Prod.mk.injEq] at hzz
  obtain ⟨hz, hsz, hb⟩ := hzz
  have hms : (bsOf m).size = m.length := by rw [Lib.size_eq]; rfl
  obtain ⟨v', w', hrun, r1, r2, _⟩ := Lib.run_append_own_string (P := Tryd.prog) w B 22 9 ty 5 i Tryd.underlying22 Tryd.underlying9 hi hz hsz hb v l.length (c8 l) h (bsOf m) (by rw [hms]; unfold maxLen; omega) (by rw [hms]; omega) hB
  refine ⟨v', w', hrun, ?_, Below.grown (Below.refl B _) r2 hB fun q hq => (owns_lt h hq).1⟩
  rw [strCells_bs, hms] at r1
  unfold O8
  rw [c8_app, List.length_append]
  exact r1
theorem o8_nil (B : Nat) (w : World) : O8 B w (.slice none 0 0) [] := World.ownsRow_nil w B 5 1
theorem rowsD_len : ∀ {rs : List Bs} {ln : Int} {s : LxS} {p : List Tk × LxS}, OpOk s.op → rowsD ln s rs = .ok p → p.1.length + p.2.op.length ≤ s.op.length + 4 * (rs.map List.length).sum
  | [], ln, s, p, hs, h => by simp only [rowsD, Except.ok.injEq] at h; subst h; simp
  | row :: rs, ln, s, p, hs, h => by
    simp only [rowsD] at h
    cases hr : rowD ln s row with
    | error e => rw [hr] at h; cases h
    | ok x =>
      rw [hr] at h
      simp only at h
      cases hq : rowsD (ln + 1) x.2 rs with
      | error e => rw [hq] at h; cases h
      | ok y =>
        rw [hq] at h
        simp only [Except.ok.injEq] at h
        subst h
        have h1 := (rowD_size hs hr).1
        have h2 := rowsD_len (rowD_op hs hr) hq
        simp only [List.length_append, List.map_cons, List.sum_cons] at h1 h2 ⊢
        omega
theorem lexD_len {src : Bs} {ts : List Tk} (h : lexD src = .ok ts) : ts.length ≤ 80001 := by
  have hl := (lexD_txt h).2
  unfold lexD at h
  rw [if_neg (by omega)] at h
  cases hp : rowsD 1 ⟨0, [0]⟩ (splitB src) with
  | error e => rw [hp] at h; cases h
  | ok p =>
    rw [hp] at h
    simp only [Except.ok.injEq] at h
    subst h
    have h1 := rowsD_len OpOk.zero hp
    have h2 := splitB_sum src
    have h3 := (rowsD_op OpOk.zero hp).len
    simp only [List.length_append, outsD, List.length_replicate, List.length_cons, List.length_nil] at h1 ⊢
    omega
end Go.Proofs.YtcjomeghcihecaaDoor
