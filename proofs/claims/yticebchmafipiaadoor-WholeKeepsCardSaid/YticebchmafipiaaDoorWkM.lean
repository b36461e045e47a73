/- Layer 2: the memory of WholeKeeps: results in ranges of their own, the list of their rows, the list of their copies. Layer 2: the document's Copy: a number as new memory. Layer 2: the document's Room and Kept: a row of its own with marked room behind it. -/
import Derived.Test.YticebchmafipiaaDoorWkA
import Derived.Test.YticebchmafipiaaDoorApAll
import Derived.Deep.RegionHeld3
import Derived.Deep.QuietTactic
import Derived.BigQuiet
namespace Go.Proofs.YticebchmafipiaaDoor
section
open Go Go.ChangeShapes Go.WideShapes Go.ChangeAt Go.RowKit
set_option linter.unusedVariables false
set_option linter.unusedSimpArgs false
/-- A result: its sign, its row's slice value, its row. -/
structure Big1 where
  n : Bool
  u : Value
  ws : List Int
def bz : Big1 := ⟨false, .bool false, []⟩
theorem map_getD {α β : Type} (f : α → β) (l : List α) (i : Nat) (d : α) : (l.map f).getD i (f d) = f (l.getD i d) := by
  rw [List.getD_eq_getElem?_getD, List.getD_eq_getElem?_getD, List.getElem?_map]
  cases l[i]? <;> rfl
theorem app_left {α : Type} {a b : List α} {d : α} {i : Nat} (h : i < a.length) : (a ++ b).getD i d = a.getD i d := by
  rw [List.getD_eq_getElem?_getD, List.getElem?_append_left h, ← List.getD_eq_getElem?_getD]
theorem app_right {α : Type} {a b : List α} {d : α} {i : Nat} (h : a.length ≤ i) : (a ++ b).getD i d = b.getD (i - a.length) d := by
  rw [List.getD_eq_getElem?_getD, List.getElem?_append_right h, ← List.getD_eq_getElem?_getD]
/-- Results whose rows lie in blocks of their own, above H. -/
structure RZ (w : World) (H : Nat) (zs : List Big1) : Prop where
  dis : ∀ i j b, i < zs.length → j < zs.length → (zs.getD i bz).u.ownBlock = some b → (zs.getD j bz).u.ownBlock = some b → i = j
  mu : ∀ i, i < zs.length → MU w H (zs.getD i bz).u (zs.getD i bz).ws
  len : ∀ i, i < zs.length → (zs.getD i bz).ws.length ≤ 30
theorem rng_own {u : Value} {b o : Nat} (h : Rng u b o) : u.ownBlock = some b := by
  obtain ⟨off, n, c, rfl, _⟩ := h; rfl
theorem Mine.own {k : IntKind} {T : TypeId} {w : World} {lo b : Nat} {u : Value} {ws : List Int} (h : Mine k T w lo u ws) (hr : u.ownBlock = some b) : lo ≤ b ∧ b < w.heap.size := by
  rcases h with ⟨rfl, _⟩ | ⟨g, c', cur, rfl, _, _, h3, h4, _⟩
  · simp [Value.ownBlock] at hr
  · simp only [Value.ownBlock, Option.some.injEq] at hr
    have := (Array.getElem?_eq_some_iff.1 h4).1
    omega
theorem MR.own {w : World} {lo hi b : Nat} {u : Value} {ws : List Int} (h : MR w lo hi u ws) (hr : u.ownBlock = some b) : b < hi := by
  rcases h with ⟨rfl, _⟩ | ⟨g, c', cur, rfl, _, _, _, h4, _⟩
  · simp [Value.ownBlock] at hr
  · simp only [Value.ownBlock, Option.some.injEq] at hr; omega
theorem Mine.blk {k : IntKind} {T : TypeId} {w w' : World} {H : Nat} {u : Value} {ws : List Int} (h : Mine k T w H u ws) (hb : ∀ b, u.ownBlock = some b → w'.heap[b]? = w.heap[b]?) : Mine k T w' H u ws := by
  rcases h with h | ⟨g, c, cur, rfl, h1, h2, h3, h4, h5⟩
  · exact .inl h
  · exact .inr ⟨g, c, cur, rfl, h1, h2, h3, (hb g rfl).trans h4, h5⟩
theorem MU.rowW {w : World} {H : Nat} {u : Value} {ws : List Int} (h : MU w H u ws) (hl : ws.length ≤ 30) : RowW w H u := by
  rcases h with ⟨rfl, rfl⟩ | ⟨g, c, cur, rfl, h1, h2, h3, h4, h5⟩
  · exact .inl ⟨none, rfl⟩
  · refine .inr ⟨g, 0, _, c, rfl, h1, h3, fun j hj => ⟨?_, ?_⟩, by omega⟩
    · rw [Nat.zero_add, cell_of_row w g j cur U64 (0, 0) h4, Array.getElem?_eq_getElem (show j < cur.size by omega)]; rfl
    · simp [World.frozen?, h4]
theorem RZ.rows {w : World} {H : Nat} {zs : List Big1} (h : RZ w H zs) : RowsA w H (zs.map (·.u)) := by
  have hg : ∀ i, i < zs.length → (zs.map (·.u)).getD i vz = (zs.getD i bz).u := fun i hi => by
    rw [List.getD_eq_getElem?_getD, List.getD_eq_getElem?_getD, List.getElem?_map, List.getElem?_eq_getElem hi]; rfl
  refine ⟨fun i hi => ?_, fun i j b o hi hj h1 h2 => ?_⟩
  · rw [List.length_map] at hi
    rw [hg i hi]
    exact (h.mu i hi).rowW (h.len i hi)
  · rw [List.length_map] at hi hj
    rw [hg i hi] at h1
    rw [hg j hj] at h2
    exact h.dis i j b hi hj (rng_own h1) (rng_own h2)
theorem RZ.nil {w : World} {H : Nat} : RZ w H [] := ⟨fun i j b hi => by simp at hi, fun i hi => by simp at hi, fun i hi => by simp at hi⟩
theorem RZ.keep {w w' : World} {H : Nat} {zs : List Big1} (h : RZ w H zs) (hb : Below w.heap.size w w') : RZ w' H zs := ⟨h.dis, fun i hi => (h.mu i hi).keep hb, h.len⟩
theorem RZ.blk {w w' : World} {H : Nat} {zs : List Big1} (h : RZ w H zs) (hb : ∀ i b, i < zs.length → (zs.getD i bz).u.ownBlock = some b → w'.heap[b]? = w.heap[b]?) : RZ w' H zs := ⟨h.dis, fun i hi => (h.mu i hi).blk fun b hr => hb i b hi hr, h.len⟩
theorem RZ.one {w : World} {H : Nat} {z : Big1} (h : MU w H z.u z.ws) (hl : z.ws.length ≤ 30) : RZ w H [z] := by
  refine ⟨fun i j b hi hj _ _ => by simp at hi hj; omega, fun i hi => ?_, fun i hi => ?_⟩
  · obtain rfl : i = 0 := by simpa using hi
    exact h
  · obtain rfl : i = 0 := by simpa using hi
    exact hl
theorem RZ.append {w w' : World} {S0 S1 : Nat} {zs ys : List Big1} (h : RZ w S0 zs) (hs : w.heap.size ≤ S1) (hb : Below w.heap.size w w') (g : RZ w' S1 ys) (h01 : S0 ≤ S1) : RZ w' S0 (zs ++ ys) := by
  refine ⟨fun i j b hi hj h1 h2 => ?_, fun i hi => ?_, fun i hi => ?_⟩
  · rw [List.length_append] at hi hj
    by_cases e1 : i < zs.length
    · rw [app_left e1] at h1
      by_cases e2 : j < zs.length
      · rw [app_left e2] at h2; exact h.dis i j b e1 e2 h1 h2
      · rw [app_right (by omega)] at h2
        have := (h.mu i e1).own h1
        have := (g.mu _ (by omega)).own h2
        omega
    · rw [app_right (by omega)] at h1
      by_cases e2 : j < zs.length
      · rw [app_left e2] at h2
        have := (h.mu j e2).own h2
        have := (g.mu _ (by omega)).own h1
        omega
      · rw [app_right (by omega)] at h2
        have := g.dis _ _ b (by omega) (by omega) h1 h2
        omega
  · by_cases e : i < zs.length
    · rw [app_left e]; exact (h.mu i e).keep hb
    · rw [app_right (by omega)]; exact Mine.low (g.mu _ (by rw [List.length_append] at hi; omega)) h01
  · by_cases e : i < zs.length
    · rw [app_left e]; exact h.len i e
    · rw [app_right (by omega)]; exact g.len _ (by rw [List.length_append] at hi; omega)
/-- One more result. -/
theorem RZ.add {w w' : World} {H : Nat} {zs : List Big1} {n : Bool} {u : Value} {ws : List Int} (h : RZ w H zs) (hH : H ≤ w.heap.size) (hb : Below w.heap.size w w') (hm : MU w' w.heap.size u ws) (hl : ws.length ≤ 30) : RZ w' H (zs ++ [⟨n, u, ws⟩]) :=
  h.append (Nat.le_refl _) hb (RZ.one hm hl) hH
/-- Two more results. -/
theorem RZ.add2 {w w' : World} {H M : Nat} {zs : List Big1} {n m : Bool} {u v : Value} {ws xs : List Int} (h : RZ w H zs) (hH : H ≤ w.heap.size) (hb : Below w.heap.size w w') (hm : MR w' w.heap.size M u ws) (hv : MU w' M v xs) (hM : w.heap.size ≤ M) (hl : ws.length ≤ 30) (hl2 : xs.length ≤ 30) :
    RZ w' H (zs ++ [⟨n, u, ws⟩, ⟨m, v, xs⟩]) := by
  refine h.append (Nat.le_refl _) hb (ys := [⟨n, u, ws⟩, ⟨m, v, xs⟩]) ?_ hH
  refine ⟨fun i j b hi hj h1 h2 => ?_, fun i hi => ?_, fun i hi => ?_⟩
  · match i, j, hi, hj with
    | 0, 0, _, _ => rfl
    | 1, 1, _, _ => rfl
    | 0, 1, _, _ => have := hm.own h1; have := (Mine.own hv h2).1; omega
    | 1, 0, _, _ => have := hm.own h2; have := (Mine.own hv h1).1; omega
  · match i, hi with
    | 0, _ => exact hm.mu
    | 1, _ => exact Mine.low hv hM
  · match i, hi with
    | 0, _ => exact hl
    | 1, _ => exact hl2
/-- Structs of a sign and a row, cell by cell. -/
def flatB : List (Bool × Value) → List Value
  | [] => []
  | q :: r => .bool q.1 :: q.2 :: flatB r
theorem flatB_len : ∀ (us : List (Bool × Value)), (flatB us).length = us.length * 2
  | [] => rfl
  | q :: r => by simp [flatB, flatB_len r]; omega
theorem flatB_append : ∀ (a b : List (Bool × Value)), flatB (a ++ b) = flatB a ++ flatB b
  | [], b => rfl
  | q :: r, b => by simp [flatB, flatB_append r b]
theorem flatB_at : ∀ (us : List (Bool × Value)) (i : Nat) (h : i < us.length), (flatB us)[i * 2]? = some (.bool us[i].1) ∧ (flatB us)[i * 2 + 1]? = some us[i].2
  | q :: r, 0, _ => by simp [flatB]
  | q :: r, i + 1, h => by
    have ih := flatB_at r i (by simpa using h)
    rw [show (i + 1) * 2 = i * 2 + 2 by omega, show i * 2 + 2 + 1 = i * 2 + 1 + 2 by omega]
    simpa [flatB] using ih
theorem flatB_one (us : List (Bool × Value)) (h : ∀ q ∈ us, q.2.oneCell' = true) : ∀ u ∈ flatB us, u.oneCell' = true := by
  induction us with
  | nil => intro u hu; simp [flatB] at hu
  | cons q r ih =>
    intro u hu
    simp only [flatB, List.mem_cons] at hu
    rcases hu with rfl | rfl | hu
    · rfl
    · exact h q (by simp)
    · exact ih (fun q' hq => h q' (by simp [hq])) u hu
def cz : Bool × Value := (false, .bool false)
/-- A copy stands beside each of the first m results. -/
structure Cps (w : World) (S0 : Nat) (zs : List Big1) (cs : List (Bool × Value)) : Prop where
  le : cs.length ≤ zs.length
  n : ∀ i, i < cs.length → (cs.getD i cz).1 = (zs.getD i bz).n
  mu : ∀ i, i < cs.length → MU w S0 (cs.getD i cz).2 (zs.getD i bz).ws
theorem Cps.keep {w w' : World} {S0 : Nat} {zs : List Big1} {cs : List (Bool × Value)} (h : Cps w S0 zs cs) (hb : Below w.heap.size w w') : Cps w' S0 zs cs := ⟨h.le, h.n, fun i hi => (h.mu i hi).keep hb⟩
/-- The memory: all results, the list of the first m rows, the list of the first k copies. -/
structure KI (S0 : Nat) (w : World) (lv wv : Value) (zs : List Big1) (m : Nat) (cs : List (Bool × Value)) : Prop where
  rz : RZ w S0 zs
  cp : Cps w S0 zs cs
  hm : m ≤ zs.length
  ls : w.ownsRow S0 22 1 lv m ((zs.map (·.u)).take m)
  was : w.ownsRow S0 24 2 wv cs.length (flatB cs)
  lz : ∀ g, lv.ownBlock = some g → ∀ i, i < zs.length → (zs.getD i bz).u.ownBlock ≠ some g
  wz : ∀ g, wv.ownBlock = some g → ∀ i, i < zs.length → (zs.getD i bz).u.ownBlock ≠ some g
  lc : ∀ g, lv.ownBlock = some g → ∀ i, i < cs.length → (cs.getD i cz).2.ownBlock ≠ some g
  wc : ∀ g, wv.ownBlock = some g → ∀ i, i < cs.length → (cs.getD i cz).2.ownBlock ≠ some g
  lw : ∀ g, lv.ownBlock = some g → wv.ownBlock ≠ some g
  s0 : S0 ≤ w.heap.size
theorem KI.nil {w : World} {S0 : Nat} (h : S0 ≤ w.heap.size) : KI S0 w (.slice none 0 0) (.slice none 0 0) [] 0 [] where
  rz := RZ.nil
  cp := ⟨Nat.le_refl _, fun i hi => by simp at hi, fun i hi => by simp at hi⟩
  hm := Nat.le_refl _
  ls := ⟨rfl, .inl ⟨rfl, rfl⟩⟩
  was := ⟨rfl, .inl ⟨rfl, rfl⟩⟩
  lz := fun g h => by simp [Value.ownBlock] at h
  wz := fun g h => by simp [Value.ownBlock] at h
  lc := fun g h => by simp [Value.ownBlock] at h
  wc := fun g h => by simp [Value.ownBlock] at h
  lw := fun g h => by simp [Value.ownBlock] at h
  s0 := h
section
variable {S0 : Nat} {w w' : World} {lv wv lv' wv' : Value} {zs ys : List Big1} {m : Nat} {cs : List (Bool × Value)}
theorem KI.keep (h : KI S0 w lv wv zs m cs) (hb : Below w.heap.size w w') : KI S0 w' lv wv zs m cs :=
  ⟨h.rz.keep hb, h.cp.keep hb, h.hm, owns_block h.ls fun g hg => hb.block g (owns_lt h.ls hg).2, owns_block h.was fun g hg => hb.block g (World.ownsRow.lt h.was g hg).2, h.lz, h.wz, h.lc, h.wc, h.lw, Nat.le_trans h.s0 hb.size⟩
/-- New results. -/
theorem KI.more (h : KI S0 w lv wv zs m cs) (hb : Below w.heap.size w w') (g : RZ w' w.heap.size ys) : KI S0 w' lv wv (zs ++ ys) m cs := by
  have k := h.keep hb
  have hnew : ∀ i q, i < (zs ++ ys).length → ¬ i < zs.length → ((zs ++ ys).getD i bz).u.ownBlock = some q → w.heap.size ≤ q := fun i q hi hn hr => by
    rw [app_right (by omega)] at hr
    exact ((g.mu _ (by rw [List.length_append] at hi; omega)).own hr).1
  refine ⟨h.rz.append (Nat.le_refl _) hb g h.s0, ⟨by have := h.cp.le; rw [List.length_append]; omega, fun i hi => ?_, fun i hi => ?_⟩, by have := h.hm; rw [List.length_append]; omega, ?_, k.was, fun q hq i hi hr => ?_, fun q hq i hi hr => ?_, h.lc, h.wc, h.lw, k.s0⟩
  · rw [app_left (Nat.lt_of_lt_of_le hi h.cp.le)]; exact h.cp.n i hi
  · rw [app_left (Nat.lt_of_lt_of_le hi h.cp.le)]; exact k.cp.mu i hi
  · rw [List.map_append, List.take_append_of_le_length (by rw [List.length_map]; exact h.hm)]; exact k.ls
  · by_cases e : i < zs.length
    · rw [app_left e] at hr; exact h.lz q hq i e hr
    · have := hnew i q hi e hr; have := (World.ownsRow.lt h.ls q hq).2; omega
  · by_cases e : i < zs.length
    · rw [app_left e] at hr; exact h.wz q hq i e hr
    · have := hnew i q hi e hr; have := (World.ownsRow.lt h.was q hq).2; omega
/-- Rows put on the list. -/
theorem KI.pushL {c : Nat} {news : List Value} (h : KI S0 w lv wv zs m cs) (hc : m + c ≤ zs.length) (hn : news = ((zs.map (·.u)).drop m).take c) (ha : Apd w w' S0 22 lv lv' (m + c) ((zs.map (·.u)).take m ++ news)) : KI S0 w' lv' wv zs (m + c) cs := by
  have hsz := ha.grown.size
  have hlv : ∀ g, lv'.ownBlock = some g → lv.ownBlock = some g ∨ w.heap.size ≤ g := fun g hg => by
    rcases ha.at_ with e | e
    · exact .inl (e ▸ hg)
    · rw [e] at hg; simp only [Option.some.injEq] at hg; exact .inr (by omega)
  have hz : ∀ i b, i < zs.length → (zs.getD i bz).u.ownBlock = some b → w'.heap[b]? = w.heap[b]? := fun i b hi hb => ha.grown.block b ((h.rz.mu i hi).own hb).2 fun e => h.lz b e.symm i hi hb
  have hcb : ∀ i b, i < cs.length → (cs.getD i cz).2.ownBlock = some b → w'.heap[b]? = w.heap[b]? := fun i b hi hb => ha.grown.block b ((h.cp.mu i hi).own hb).2 fun e => h.lc b e.symm i hi hb
  refine ⟨h.rz.blk hz, ⟨h.cp.le, h.cp.n, fun i hi => (h.cp.mu i hi).blk fun b hb => hcb i b hi hb⟩, hc, ?_, owns_block h.was fun g hg => ha.grown.block g (World.ownsRow.lt h.was g hg).2 fun e => h.lw g e.symm hg, fun g hg i hi hr => ?_, h.wz, fun g hg i hi hr => ?_, h.wc, fun g hg hr => ?_, Nat.le_trans h.s0 hsz⟩
  · have e : (zs.map (·.u)).take (m + c) = (zs.map (·.u)).take m ++ news := by rw [hn, List.take_add]
    rw [e]; exact ha.own
  · rcases hlv g hg with e | e
    · exact h.lz g e i hi hr
    · have := ((h.rz.mu i hi).own hr).2; omega
  · rcases hlv g hg with e | e
    · exact h.lc g e i hi hr
    · have := ((h.cp.mu i hi).own hr).2; omega
  · rcases hlv g hg with e | e
    · exact h.lw g e hr
    · have := (World.ownsRow.lt h.was g hr).2; omega
/-- A copy put on the list. -/
theorem KI.pushC {n : Bool} {u : Value} {H : Nat} (h : KI S0 w lv wv zs m cs) (hk : cs.length < zs.length) (hn : n = (zs.getD cs.length bz).n) (hm : MU w H u (zs.getD cs.length bz).ws) (hH : S0 ≤ H) (hl : ∀ g, lv.ownBlock = some g → u.ownBlock ≠ some g) (hw : ∀ g, wv.ownBlock = some g → u.ownBlock ≠ some g)
    (ha : ApdS 2 w w' S0 24 wv wv' (cs.length + 1) (flatB cs ++ [.bool n, u])) : KI S0 w' lv wv' zs m (cs ++ [(n, u)]) := by
  have hsz := ha.grown.size
  have hwv : ∀ g, wv'.ownBlock = some g → wv.ownBlock = some g ∨ w.heap.size ≤ g := fun g hg => by
    rcases ha.at_ with e | e
    · exact .inl (e ▸ hg)
    · rw [e] at hg; simp only [Option.some.injEq] at hg; exact .inr (by omega)
  have hz : ∀ i b, i < zs.length → (zs.getD i bz).u.ownBlock = some b → w'.heap[b]? = w.heap[b]? := fun i b hi hb => ha.grown.block b ((h.rz.mu i hi).own hb).2 fun e => h.wz b e.symm i hi hb
  have hcb : ∀ i b, i < cs.length → (cs.getD i cz).2.ownBlock = some b → w'.heap[b]? = w.heap[b]? := fun i b hi hb => ha.grown.block b ((h.cp.mu i hi).own hb).2 fun e => h.wc b e.symm i hi hb
  have hub : ∀ b, u.ownBlock = some b → w'.heap[b]? = w.heap[b]? := fun b hb => ha.grown.block b (Mine.own hm hb).2 fun e => hw b e.symm hb
  have hcase : ∀ i, i < (cs ++ [(n, u)]).length → (i < cs.length ∧ (cs ++ [(n, u)]).getD i cz = cs.getD i cz) ∨ (i = cs.length ∧ (cs ++ [(n, u)]).getD i cz = (n, u)) := fun i hi => by
    rw [List.length_append, List.length_singleton] at hi
    by_cases e : i < cs.length
    · exact .inl ⟨e, app_left e⟩
    · obtain rfl : i = cs.length := by omega
      exact .inr ⟨rfl, by rw [app_right (Nat.le_refl _), Nat.sub_self]; rfl⟩
  refine ⟨h.rz.blk hz, ⟨by rw [List.length_append, List.length_singleton]; omega, fun i hi => ?_, fun i hi => ?_⟩, h.hm, owns_block h.ls fun g hg => ha.grown.block g (World.ownsRow.lt h.ls g hg).2 fun e => h.lw g hg e.symm, ?_, h.lz, fun g hg i hi hr => ?_, fun g hg i hi hr => ?_, fun g hg i hi hr => ?_, fun g hg hr => ?_, Nat.le_trans h.s0 hsz⟩
  · rcases hcase i hi with ⟨e1, e2⟩ | ⟨rfl, e2⟩
    · rw [e2]; exact h.cp.n i e1
    · rw [e2]; exact hn
  · rcases hcase i hi with ⟨e1, e2⟩ | ⟨rfl, e2⟩
    · rw [e2]; exact (h.cp.mu i e1).blk fun b hb => hcb i b e1 hb
    · rw [e2]; exact Mine.low (Mine.blk hm hub) hH
  · rw [List.length_append, List.length_singleton, flatB_append]; exact ha.own
  · rcases hwv g hg with e | e
    · exact h.wz g e i hi hr
    · have := ((h.rz.mu i hi).own hr).2; omega
  · rcases hcase i hi with ⟨e1, e2⟩ | ⟨rfl, e2⟩
    · rw [e2] at hr; exact h.lc g hg i e1 hr
    · rw [e2] at hr; exact hl g hg hr
  · rcases hcase i hi with ⟨e1, e2⟩ | ⟨rfl, e2⟩
    · rw [e2] at hr
      rcases hwv g hg with e | e
      · exact h.wc g e i e1 hr
      · have := ((h.cp.mu i e1).own hr).2; omega
    · rw [e2] at hr
      rcases hwv g hg with e | e
      · exact hw g e hr
      · have := (Mine.own hm hr).2; omega
  · rcases hwv g hr with e | e
    · exact h.lw g hg e
    · have := (World.ownsRow.lt h.ls g hg).2; omega
/-- A store below all of it. -/
theorem KI.setLow (h : KI S0 w lv wv zs m cs) (b o : Nat) (x : Value) (hb : b < S0) : KI S0 (w.setCell ⟨b, o, none⟩ x) lv wv zs m cs := by
  have hB : Below S0 w (w.setCell ⟨b, o, none⟩ x) ∨ True := .inr trivial
  have hblk : ∀ g, S0 ≤ g → (w.setCell ⟨b, o, none⟩ x).heap[g]? = w.heap[g]? := fun g hg => Below.heap_setCell _ _ _ _ (by simp; omega)
  refine ⟨h.rz.blk fun i g hi hg => hblk g ((h.rz.mu i hi).own hg).1, ⟨h.cp.le, h.cp.n, fun i hi => (h.cp.mu i hi).blk fun g hg => hblk g ((h.cp.mu i hi).own hg).1⟩, h.hm, owns_block h.ls fun g hg => hblk g (World.ownsRow.lt h.ls g hg).1, owns_block h.was fun g hg => hblk g (World.ownsRow.lt h.was g hg).1, h.lz, h.wz, h.lc, h.wc, h.lw, by have := h.s0; simpa [World.setCell] using this⟩
/-- What Apart asks for. -/
theorem RowsA.ahyp2 {vs : List Value} {B c : Nat} {p : Option Addr} {T : TypeId} (h : RowsA w S0 vs) (hS : S0 ≤ w.heap.size) (hlen : vs.length ≤ 4194304) (hown : w.ownsRow B T 1 (.slice p vs.length c) vs.length vs) (hB : ∀ g, (Value.slice p vs.length c).ownBlock = some g → ∀ i o, i < vs.length → ¬ Rng (vs.getD i vz) g o) :
    ∃ tg ns, AHyp w tg S0 p vs ns := by
  classical
  let tg : Nat → Nat → Nat := fun b o => if hx : ∃ i, i < vs.length ∧ Rng (vs.getD i vz) b o then Classical.choose hx + 1 else 0
  have ht : ∀ i b o, i < vs.length → Rng (vs.getD i vz) b o → tg b o = i + 1 := fun i b o hi hr => by
    have hx : ∃ i, i < vs.length ∧ Rng (vs.getD i vz) b o := ⟨i, hi, hr⟩
    show (if hx : ∃ i, i < vs.length ∧ Rng (vs.getD i vz) b o then Classical.choose hx + 1 else 0) = i + 1
    rw [dif_pos hx]
    have := Classical.choose_spec hx
    rw [h.disj _ _ b o this.1 hi this.2 hr]
  have h0 : ∀ b o, (∀ i, i < vs.length → ¬ Rng (vs.getD i vz) b o) → tg b o = 0 := fun b o hn => by
    show (if hx : ∃ i, i < vs.length ∧ Rng (vs.getD i vz) b o then Classical.choose hx + 1 else 0) = 0
    rw [dif_neg]
    rintro ⟨i, hi, hr⟩
    exact hn i hi hr
  refine ⟨tg, fun k => nsOf (vs.getD k vz), fun i hi => ?_, fun k hk => ?_, fun b o hb => h0 b o fun i hi hr => ?_, hS, hlen, fun k hk => ?_⟩
  · rcases hown.2 with ⟨he, h2⟩ | ⟨g, c', cur, he, hg, r1, r2, r3, r4, r5⟩
    · omega
    · simp only [Value.slice.injEq] at he
      obtain ⟨rfl, _, rfl⟩ := he
      refine ⟨g, 0, rfl, (Array.getElem?_eq_some_iff.1 r1).1, h0 _ _ fun j hj hr => hB g rfl j _ hj hr, ?_⟩
      have e := congrArg (fun l => l[i]?) r5
      simp only [List.getElem?_take] at e
      rw [if_pos (by omega), Array.getElem?_toList, List.getElem?_eq_getElem hi] at e
      rw [List.getD_eq_getElem?_getD, List.getElem?_eq_getElem hi]
      simp [World.cell?, r1, e]
  · rcases h.row k hk with ⟨p, e⟩ | ⟨b, off, n, c', e, h1, h2, h3, h4⟩
    · rw [e]; exact .inl ⟨p, rfl, rfl⟩
    · rw [e]
      refine .inr ⟨b, off, c', rfl, h1, h2, fun i hi => ⟨ht k _ _ hk ?_, h3 i hi⟩, fun i hi => by omega⟩
      rw [e]
      exact ⟨off, n, c', rfl, by omega, by omega⟩
  · have := (h.row i hi).rng hr; omega
  · rcases h.row k hk with ⟨p, e⟩ | ⟨b, off, n, c', e, h1, h2, h3, h4⟩
    · rw [e]; simp [nsOf]
    · rw [e]; exact h4
/-- All rows on the list: Apart says yes. -/
theorem KI.apart {p : Option Addr} {n c : Nat} (h : KI S0 w (.slice p n c) wv zs n cs) (hn : n = zs.length) (hl : zs.length ≤ 1000) :
    Calls Tryd.prog 24 #[.slice p n c] w fun e w' => e = .returned (.bool true) ∧ Below S0 w w' := by
  subst hn
  have hlen : (zs.map (·.u)).length = zs.length := List.length_map ..
  have hls := h.ls
  rw [List.take_of_length_le (by omega)] at hls
  have hgd : ∀ i, i < zs.length → (zs.map (·.u)).getD i vz = (zs.getD i bz).u := fun i hi => by
    rw [List.getD_eq_getElem?_getD, List.getD_eq_getElem?_getD, List.getElem?_map, List.getElem?_eq_getElem hi]; rfl
  obtain ⟨tg, ns, ha⟩ := RowsA.ahyp2 (p := p) (c := c) (vs := zs.map (·.u)) (T := 22) (B := S0) h.rz.rows h.s0 (by omega) (by rw [hlen]; exact hls) (fun g hg i o hi hr => by
    rw [hlen] at hi
    rw [hgd i hi] at hr
    exact h.lz g (by rw [hlen] at hg; exact hg) i hi (rng_own hr))
  have := apart_any p c _ ns tg S0 w ha
  rw [hlen] at this
  exact this
end
end
section
open Go Go.ChangeShapes Go.WideShapes Go.ChangeAt Go.RowKit
set_option linter.unusedVariables false
set_option linter.unusedSimpArgs false
theorem Rd.src {w : World} {u : Value} {ws : List Int} (h : Rd w u ws) : Src w u ws.length (ws.map (Value.int .u64)) := by
  rcases h with ⟨p, rfl, rfl⟩ | ⟨b, off, c, rfl, h1, h2, h3⟩
  · refine ⟨by simp, ?_⟩
    cases p with
    | none => exact .inl ⟨rfl, rfl⟩
    | some a => exact .inr ⟨a, 0, rfl, fun j v hj => by simp at hj⟩
  · refine ⟨by simp, .inr ⟨_, c, rfl, fun j v hj => ?_⟩⟩
    have hj' : j < ws.length := by
      rw [List.getElem?_eq_some_iff] at hj
      simpa using hj.1
    have := h3 j hj'
    rw [show (⟨b, off, none⟩ : Addr).add j = ⟨b, off + j, none⟩ by unfold Addr.add; split <;> simp_all, this]
    rw [List.getElem?_map, List.getElem?_eq_getElem hj'] at hj
    simp only [Option.map_some, Option.some.injEq] at hj
    rw [← hj, List.getD_eq_getElem?_getD, List.getElem?_eq_getElem hj']
    rfl
/-- A sign and a row of the call's own. -/
def CopyPost (W : World) (n : Bool) (ws : List Int) (e : Ending) (w' : World) : Prop := ∃ u, e = .returned (.agg #[.bool n, u]) ∧ MU w' W.heap.size u ws ∧ Below W.heap.size W w'
theorem CopyPost.mk {w w2 w3 : World} {n : Bool} {v3 : Value} {ws : List Int} (hb2 : Below w.heap.size w w2) (hb3 : Below w2.heap.size w2 w3) (hlt : w.heap.size + 1 < w2.heap.size) (hown : w3.ownsRow w2.heap.size 50 1 v3 ws.length (ws.map (Value.int .u64))) (x y : Value) :
    CopyPost w n ws (.returned (.agg #[.bool n, v3])) ((w3.setCell ⟨w.heap.size + 1, 0, none⟩ x).setCell ⟨w.heap.size + 1, 1, none⟩ y) :=
  ⟨v3, rfl, ((owns_mine hown : MU w3 w2.heap.size v3 ws).set2 hlt x y).low (by omega), ((hb2.trans (hb3.mono hb2.size)).setCell (by simp) _).setCell (by simp) _⟩
set_option maxRecDepth 100000 in
set_option maxHeartbeats 1000000 in
theorem copy_any (n : Bool) (u : Value) (ws : List Int) (w : World) (hr : Rd w u ws) :
    Calls Tryd.prog 21 #[.agg #[.bool n, u]] w (CopyPost w n ws) := by
  obtain ⟨p, c, rfl, hc, hm, hp⟩ := rd_form hr
  have HR := Lib.hid hr
  clear hp hr
  go_enter Tryd.func21, Tryd.ntmps21
  go_wp2_with fail
  generalize hw2 : World.alloc (World.alloc w _) _ = w2
  have hbx : Bx2 w2 w.heap.size n (.slice p ws.length c) := by
    rw [← hw2]
    refine ⟨alloc_cell (by simp) _, alloc_cell (by simp) _, ?_, ?_, ?_, ?_, by simp⟩ <;> simp
  have HB2 := Lib.hid (show Below w.heap.size w w2 by rw [← hw2]; exact ((Below.refl _ _).alloc (Nat.le_refl _) _).alloc (by simp) _)
  clear hw2
  have HX2 := Lib.hid hbx
  have q0 := hbx.x0
  have q1 := hbx.x1
  have m0 := hbx.r0
  have m1 := hbx.r1
  have hlt := hbx.lt
  have HS2 := Lib.hid (Rd.src (HR.out.keep HB2.out))
  clear hbx
  go_region_held3 (fun w' => w'.cell? ⟨w.heap.size, 0, none⟩ = some (.bool n) ∧ w'.cell? ⟨w.heap.size, 1, none⟩ = some (.slice p ws.length c))
    (first | go_keep | (with_reducible exact ⟨below_cell hb3 q0, below_cell hb3 q1⟩) | fail)
    (first
     | (refine step_app rfl (.tmp 5) (.tmp 7) rfl Tryd.underlying22 infoU64 rfl rfl (v := .slice (some ⟨_, 0, none⟩) 0 0) (base := w2.heap.size) (n := 0) (xs := []) (own_freshAt (c := 0) rfl (by unfold maxLen; omega) (by first | exact Nat.le_refl _ | (simp; done)) (by first | rfl | (simp; done))) rfl (HS2.out.keep (by ((repeat' (first | with_reducible assumption | with_reducible exact Below.refl _ _ | with_reducible refine Below.drew ?_ | with_reducible refine Below.alloc ?_ (by first | omega | (simp; omega) | (simp; done) | fail) _ | with_reducible refine Below.setCell ?_ (by first | omega | (simp; omega) | (simp; done) | fail) _ | fail)); (first | done | fail)))) (one_cells ws) (by unfold maxLen; omega) (by omega) (by first | omega | (simp; done)) ?_; intro v3 w3 hap3; rw [Nat.zero_add, List.nil_append] at hap3; have hb3 : Below w2.heap.size w2 w3 := Below.trans (by ((repeat' (first | with_reducible assumption | with_reducible exact Below.refl _ _ | with_reducible refine Below.drew ?_ | with_reducible refine Below.alloc ?_ (by first | omega | (simp; omega) | (simp; done) | fail) _ | with_reducible refine Below.setCell ?_ (by first | omega | (simp; omega) | (simp; done) | fail) _ | fail)); (first | done | fail)) : Below w2.heap.size w2 _) (hap3.below (by first | exact Nat.le_refl _ | omega | (simp; done)) (fun g hg => by simp [Value.ownBlock] at hg; omega)); obtain ⟨p3, c3, rfl⟩ := owns_form0 hap3.own; have hx3 := HX2.out.keep hb3; have k0 := hx3.r0; have k1 := hx3.r1; have kf0 := hx3.f0; have kf1 := hx3.f1; have HO := Lib.hid hap3.own; have H3 := Lib.hid hb3; clear hap3 hx3)
     | fail)
  go_goals
  all_goals (go_wp2_with fail)
  all_goals (have zz := two_setW (x0 := .bool n) (x1 := .slice p3 ws.length c3) k0 k1)
  all_goals (refine bodyPost_ret (v := .agg #[.bool n, .slice p3 ws.length c3]) (by simp [results, Tryd.results21, go_sem, zz.1, zz.2]) rfl ?_)
  all_goals exact CopyPost.mk HB2.out H3.out hlt HO.out _ _
end
section
open Go Go.ChangeShapes Go.WideShapes Go.ChangeAt Go.RowKit
set_option linter.unusedVariables false
set_option linter.unusedSimpArgs false
/-- The row and its marks. -/
def roomL (ws : List Int) : List Int := ws ++ (List.range 6).map fun i => 7770000 + ((ws.length + i : Nat) : Int)
theorem roomL_len (ws : List Int) : (roomL ws).length = ws.length + 6 := by simp [roomL]
theorem roomL_lo {ws : List Int} {i : Nat} (h : i < ws.length) : (roomL ws).getD i 0 = ws.getD i 0 := app_left h
theorem roomL_hi {ws : List Int} {i : Nat} (h : ws.length ≤ i) (h' : i < ws.length + 6) : (roomL ws).getD i 0 = 7770000 + (i : Int) := by
  rw [roomL, app_right h, List.getD_eq_getElem?_getD, List.getElem?_map, List.getElem?_range (by omega)]
  simp only [Option.map_some, Option.getD_some]
  omega
theorem ksl_to {P : Program} (t : TypeId) (ht : P.underlying t = some (.slice (P.elem t))) (hsz : ∀ wx, (sizeOf (P.elem t)).run P wx = .ok 1 wx) (b off n c hi : Nat) (h : hi ≤ c) :
    ∀ wx, (Instr.slice t (.slice (some ⟨b, off, none⟩) n c) none (some (.int .i64 (hi : Int))) none).run P wx = .ok (.slice (some ⟨b, off, none⟩) hi c) wx := fun wx => by
  rw [run_slice_h wx t _ n c ht .i64 (hi : Int) (by omega) (by omega), hsz]
  simp [Result.andThen, sliced, Addr.add]
/-- The first m places are as they should be. -/
def RoomTo (ws : List Int) (m : Nat) (os : List Int) : Prop := os.length = ws.length + 6 ∧ ∀ j, j < m → os.getD j 0 = (roomL ws).getD j 0
theorem RoomTo.start (ws : List Int) : RoomTo ws ws.length (ws ++ List.replicate 6 0) := ⟨by simp, fun j hj => by rw [app_left hj, roomL_lo hj]⟩
theorem RoomTo.step {ws os : List Int} {m : Nat} (h : RoomTo ws m os) (h1 : ws.length ≤ m) (h2 : m < ws.length + 6) : RoomTo ws (m + 1) (os.set m (7770000 + (m : Int))) := by
  have hl := h.1
  refine ⟨by rw [List.length_set]; exact hl, fun j hj => ?_⟩
  rw [getD_set' _ _ _ _ (by omega)]
  by_cases e : j = m
  · rw [if_pos e, e, roomL_hi h1 h2]
  · rw [if_neg e]; exact h.2 j (by omega)
theorem RoomTo.all {ws os : List Int} (h : RoomTo ws (ws.length + 6) os) : os = roomL ws :=
  list_ext_getD (h.1.trans (roomL_len ws).symm) fun j hj => h.2 j (by have := h.1; omega)
def RoomPost (W : World) (ws : List Int) (e : Ending) (w' : World) : Prop :=
  ∃ g, e = .returned (.slice (some ⟨g, 0, none⟩) ws.length (ws.length + 6)) ∧ LU w' g (roomL ws) ∧ W.heap.size ≤ g ∧ Below W.heap.size W w'
set_option maxRecDepth 100000 in
set_option maxHeartbeats 1000000 in
theorem room_any (u : Value) (xs : List Int) (w : World) (hr : Rd w u xs) :
    Calls Tryd.prog 13 #[u] w (RoomPost w xs) := by
  obtain ⟨p1, c1, rfl, hc1, hm1, hp1⟩ := rd_form hr
  have HP1 := Lib.hid hp1
  clear hr hc1 hp1
  have hmk := run_make_row' (P := Tryd.prog) 22 50 (.int .u64 0) 8 Tryd.underlying22 infoU64 rfl .i64 .i64 (xs.length + 6) (by omega) (by omega)
  rw [show ((xs.length + 6 : Nat) : Int) = (xs.length : Int) + 6 by omega] at hmk
  have hg : (w.alloc (.cells (madeCells #[Value.int .u64 0] (xs.length + 6)) 50)).heap[w.heap.size]? = some (.cells ((List.replicate (xs.length + 6) (0 : Int)).map (Value.int .u64)).toArray 50 (0, 0)) := LR.made (k := .u64) (T := 50) w (xs.length + 6)
  have HGG := Lib.hid hg
  have HBB := Lib.hid (show Below w.heap.size w (w.alloc (.cells (madeCells #[Value.int .u64 0] (xs.length + 6)) 50)) from (Below.refl _ _).alloc (Nat.le_refl _) _)
  have hsrc : ∀ o, 0 < xs.length → ∃ b off, p1 = some ⟨b, off, none⟩ ∧ ∀ i, i < xs.length → (w.alloc o).cell? ⟨b, off + i, none⟩ = some (.int .u64 (xs.getD i 0)) := fun o h => by
    obtain ⟨b, off, e, hx⟩ := HP1.out h
    exact ⟨b, off, e, fun i hi => alloc_cell (hx i hi) _⟩
  have HSR := Lib.hid hsrc
  have hw6 : IntKind.i64.wrap ((xs.length : Int) + 6) = (xs.length : Int) + 6 := IntWalk.i64_in _ (by omega)
  have hsl := ksl_to (P := Tryd.prog) 22 sliceU sizeU w.heap.size 0 (xs.length + 6) (xs.length + 6) xs.length (by omega)
  clear hg hsrc
  go_enter Tryd.func13, Tryd.ntmps13
  go_wp2_with (with_reducible refine wpList_copy_splice rfl (.tmp 9) (.tmp 10) 22 22 rfl 50 Tryd.underlying22 sizeU64 (some ⟨w.heap.size, 0, none⟩) p1 (xs.length + 6) (xs.length + 6) xs.length c1 rfl rfl w.heap.size 0 _ 50 HGG.out (xs.map (Value.int .u64)) (min_len xs 6) (fun h0 => ⟨rfl, src_cells (HSR.out _) h0⟩) (fit_len xs 6) (one_cells xs) w.heap.size w HBB.out (Nat.le_refl _) ?_; intro w1 hrow hb1)
  have HL := Lib.hid (LU.of_splice (m := 6) rfl hrow)
  have HB1 := Lib.hid hb1
  clear hrow hb1 hmk HGG HBB HSR
  go_loopw [4] (fun s wr => ∃ (m : Nat) (os : List Int), s = .int .i64 m ∧ xs.length ≤ m ∧ m ≤ xs.length + 6 ∧ RoomTo xs m os ∧ LU wr w.heap.size os ∧ Below w.heap.size w wr) (fun s _ => xs.length + 6 - (intOf s).toNat)
  case atStart => exact ⟨xs.length, _, by go_num, Nat.le_refl _, by omega, RoomTo.start xs, HL.out, HB1.out⟩
  case round =>
    obtain ⟨m, os, rfl, h1, h2, hS, hL, hB⟩ := hrel
    have HS := Lib.hid hS
    have HL2 := Lib.hid hL
    have HB2 := Lib.hid hB
    have hol := hS.1
    clear hS hL hB
    by_cases hlt : m < xs.length + 6
    · have hox := HL2.out.cell (i := m) (by omega)
      have hfr := HL2.out.frozen m
      have hlz : (m : Int) < (xs.length : Int) + 6 := by omega
      have hwu : IntKind.u64.wrap (m : Int) = (m : Int) := by rw [IntKind.wrap_u64]; omega
      have hwv : IntKind.u64.wrap (7770000 + (m : Int)) = 7770000 + (m : Int) := by rw [IntKind.wrap_u64]; omega
      go_wp2
      go_roundw
      case rel => exact ⟨m + 1, _, by go_num, by omega, by omega, HS.out.step h1 hlt, HL2.out.set m _, HB2.out.setCell (Nat.le_refl _) _⟩
      case measure => simp [intOf]; omega
    · obtain rfl : m = xs.length + 6 := by omega
      have hlz : ¬ ((xs.length : Int) + 6 < (xs.length : Int) + 6) := by omega
      have HE := Lib.hid HS.out.all
      go_wp2
      go_ret
      exact ⟨w.heap.size, rfl, by have := HL2.out; rwa [HE.out] at this, Nat.le_refl _, HB2.out⟩
set_option maxRecDepth 100000 in
set_option maxHeartbeats 1000000 in
/-- The room is as it was. -/
theorem kept_any (g : Nat) (u : Value) (xs : List Int) (w : World) (hL : LU w g (roomL xs)) (hr : Rd w u xs) :
    Calls Tryd.prog 23 #[.slice (some ⟨g, 0, none⟩) xs.length (xs.length + 6), u] w (BoolPost w true) := by
  obtain ⟨p1, c1, rfl, hc1, hm1, hp1⟩ := rd_form hr
  have HP1 := Lib.hid hp1
  have HLL := Lib.hid hL
  clear hr hc1 hp1 hL
  have hw6 : IntKind.i64.wrap ((xs.length : Int) + 6) = ((xs.length + 6 : Nat) : Int) := by rw [IntWalk.i64_in _ (by omega)]; omega
  have hsl := ksl_to (P := Tryd.prog) 22 sliceU sizeU g 0 xs.length (xs.length + 6) (xs.length + 6) (by omega)
  go_enter Tryd.func23, Tryd.ntmps23
  go_wp2_with fail
  go_loopw [6] (fun s wr => ∃ m q : Nat, s = .int .i64 m ∧ m ≤ xs.length + 6 ∧ wr = w.drewN q) (fun s _ => xs.length + 6 - (intOf s).toNat)
  case atStart => exact ⟨0, 0, by go_num, by omega, rfl⟩
  case round =>
    obtain ⟨m, q, rfl, h2, rfl⟩ := hrel
    by_cases hlt : m < xs.length + 6
    · have hox := HLL.out.cell (i := m) (by rw [roomL_len]; exact hlt)
      have hlz : (m : Int) < ((xs.length + 6 : Nat) : Int) := by omega
      by_cases hx : m < xs.length
      · obtain ⟨b1, o1, rfl, hxx⟩ := HP1.out (by omega)
        have hcx := hxx m hx
        rw [roomL_lo hx] at hox
        have hxz : (m : Int) < (xs.length : Int) := by omega
        have hxg : decide ((xs.length : Int) ≤ (m : Int)) = false := by simp; omega
        have hxh : decide (xs.length ≤ m) = false := by simp; omega
        clear hxx
        generalize xs.getD m 0 = x at hox hcx
        have hne : (x != x) = false := by simp
        go_wp2
        go_quiet (fail)
        go_wp2
        go_roundw
        case rel => exact ⟨m + 1, _, by go_num, by omega, rfl⟩
        case measure => simp [intOf]; omega
      · rw [roomL_hi (by omega) hlt] at hox
        have hxz : decide ((m : Int) < (xs.length : Int)) = false := by simp; omega
        have hxh : decide (m < xs.length) = false := by simp; omega
        have hxk : (xs.length : Int) ≤ (m : Int) := by omega
        have hwu : IntKind.u64.wrap (m : Int) = (m : Int) := by rw [IntKind.wrap_u64]; omega
        have hwv : IntKind.u64.wrap (7770000 + (m : Int)) = 7770000 + (m : Int) := by rw [IntKind.wrap_u64]; omega
        go_wp2
        go_quiet (fail)
        go_wp2
        go_roundw
        case rel => exact ⟨m + 1, _, by go_num, by omega, rfl⟩
        case measure => simp [intOf]; omega
    · obtain rfl : m = xs.length + 6 := by omega
      have hlz : ¬ (((xs.length + 6 : Nat) : Int) < ((xs.length + 6 : Nat) : Int)) := by omega
      go_wp2
      go_ret
      exact BoolPost.mk (by simp) (below_drewN (Below.refl _ _) _)
end
end Go.Proofs.YticebchmafipiaaDoor
