/- Reaching and spreading over numbered places, as plain data: what the work lists come to. -/
import Derived.Test.YtnniohimbmnapaaDoorLvPure
namespace Go.Proofs.YtnniohimbmnapaaDoor
open Go
set_option linter.unusedVariables false
set_option linter.unusedSimpArgs false
inductive Rc (G : Gr) : Nat → Prop where
  | zero : Rc G 0
  | way {x : Nat} {w : Nat × List Nat} : Rc G x → w ∈ G.ways x → Rc G w.1
theorem Rc.lt {G : Gr} (hG : G.Ok) (h0 : 0 < G.n) {x : Nat} (h : Rc G x) : x < G.n := by
  induction h with
  | zero => exact h0
  | way _ hw ih => exact hG.to_lt _ ih _ hw
def falses (l : List Bool) : Nat := l.countP (fun b => !b)
theorem falses_set : ∀ (l : List Bool) (i : Nat), l.getD i true = false → falses (l.set i true) + 1 = falses l
  | [], i, h => by simp at h
  | b :: l, 0, h => by
    simp at h
    subst h
    simp [falses]
  | b :: l, i + 1, h => by
    have ih := falses_set l i (by simpa using h)
    unfold falses at ih ⊢
    rw [List.set_cons_succ, List.countP_cons, List.countP_cons]
    omega
theorem wait_falses {n : Nat} : ∀ (ps : List Nat) (wt : List Bool) (work : List Nat), (ps.foldl wait1 (wt, work)).2.length + falses (ps.foldl wait1 (wt, work)).1 = work.length + falses wt ∧
    (∀ y, (ps.foldl wait1 (wt, work)).1.getD y true = true → wt.getD y true = true ∨ y ∈ ps) ∧ (∀ y ∈ (ps.foldl wait1 (wt, work)).2, y ∈ work ∨ y ∈ ps)
  | [], wt, work => ⟨rfl, fun _ h => .inl h, fun _ h => .inl h⟩
  | p :: ps, wt, work => by
    rw [List.foldl_cons]
    by_cases hc : wt.getD p true = true
    · have e : wait1 (wt, work) p = (wt, work) := by unfold wait1; exact if_pos hc
      rw [e]
      obtain ⟨i1, i2, i3⟩ := wait_falses (n := n) ps wt work
      refine ⟨i1, fun y hy => ?_, fun y hy => ?_⟩
      · rcases i2 y hy with h | h
        · exact .inl h
        · exact .inr (List.mem_cons_of_mem _ h)
      · rcases i3 y hy with h | h
        · exact .inl h
        · exact .inr (List.mem_cons_of_mem _ h)
    · have e : wait1 (wt, work) p = (wt.set p true, work ++ [p]) := by unfold wait1; exact if_neg hc
      rw [e]
      obtain ⟨i1, i2, i3⟩ := wait_falses (n := n) ps (wt.set p true) (work ++ [p])
      have hf := falses_set wt p (by simpa using hc)
      have hp : p < wt.length := by
        by_cases h : p < wt.length
        · exact h
        · exfalso; apply hc; rw [List.getD_eq_getElem?_getD, List.getElem?_eq_none (by omega)]; rfl
      refine ⟨by rw [i1]; simp; omega, fun y hy => ?_, fun y hy => ?_⟩
      · rcases i2 y hy with h | h
        · rw [getD_setL _ _ _ _ _ hp] at h
          by_cases e2 : p = y
          · subst e2; exact .inr (by simp)
          · rw [if_neg e2] at h; exact .inl h
        · exact .inr (List.mem_cons_of_mem _ h)
      · rcases i3 y hy with h | h
        · rcases List.mem_append.1 h with h | h
          · exact .inl h
          · simp at h; subst h; exact .inr (by simp)
        · exact .inr (List.mem_cons_of_mem _ h)
/-- What holds between two rounds of the work list of what is reached. -/
structure RInv (G : Gr) (out : List Bool) (work : List Nat) (k : Nat) : Prop where
  len : out.length = G.n
  sound : ∀ y, y < G.n → out.getD y true = true → Rc G y
  zero : out.getD 0 true = true
  work_lt : ∀ y ∈ work, y < G.n
  work_rc : ∀ y ∈ work, Rc G y
  mem : ∀ y, y < G.n → out.getD y true = true → ∃ j, j < work.length ∧ work.getD j 0 = y
  closed : ∀ j, j < k → ∀ w ∈ G.ways (work.getD j 0), out.getD w.1 true = true
  cnt : work.length + falses out = G.n
  kle : k ≤ work.length
theorem getD_mem {l : List Nat} {k : Nat} (hk : k < l.length) : l.getD k 0 ∈ l := by
  rw [List.getD_eq_getElem?_getD, List.getElem?_eq_getElem hk]; simp
theorem getD_append_l {α : Type} {a b : List α} {j : Nat} {d : α} (h : j < a.length) : (a ++ b).getD j d = a.getD j d := by
  rw [List.getD_eq_getElem?_getD, List.getD_eq_getElem?_getD, List.getElem?_append_left h]
theorem RInv.step {G : Gr} (hG : G.Ok) {out : List Bool} {work : List Nat} {k : Nat} (h : RInv G out work k) (hk : k < work.length) {x : Nat} (hx : work.getD k 0 = x) :
    RInv G (((G.ways x).map (·.1)).foldl wait1 (out, work)).1 (((G.ways x).map (·.1)).foldl wait1 (out, work)).2 (k + 1) := by
  have hm : x ∈ work := hx ▸ getD_mem hk
  have hxn := h.work_lt x hm
  have hrc := h.work_rc x hm
  have hps : ∀ p ∈ (G.ways x).map (·.1), p < G.n := fun p hp => by
    obtain ⟨w, hw, rfl⟩ := List.mem_map.1 hp
    exact hG.to_lt x hxn w hw
  have hpr : ∀ p ∈ (G.ways x).map (·.1), Rc G p := fun p hp => by
    obtain ⟨w, hw, rfl⟩ := List.mem_map.1 hp
    exact .way hrc hw
  obtain ⟨w1, w2, w3, ext, w4, w5, w6, w7⟩ := wait_fold (n := G.n) ((G.ways x).map (·.1)) out work h.len hps
  obtain ⟨f1, f2, f3⟩ := wait_falses (n := G.n) ((G.ways x).map (·.1)) out work
  refine ⟨w1, fun y hy hh => ?_, w2 0 h.zero, fun y hy => ?_, fun y hy => ?_, fun y hy hh => ?_, fun j hj w hw => ?_, by rw [f1]; exact h.cnt, ?_⟩
  · rcases f2 y hh with h1 | h1
    · exact h.sound y hy h1
    · exact hpr y h1
  · rcases f3 y hy with h1 | h1
    · exact h.work_lt y h1
    · exact hps y h1
  · rcases f3 y hy with h1 | h1
    · exact h.work_rc y h1
    · exact hpr y h1
  · rw [w4]
    cases hc : out.getD y true with
    | true =>
      obtain ⟨j, h1, h2⟩ := h.mem y hy hc
      exact ⟨j, by simp; omega, by rw [getD_append_l h1]; exact h2⟩
    | false =>
      obtain ⟨j, hj, hje⟩ := List.getElem_of_mem (w7 y hc hh)
      refine ⟨work.length + j, by simp; omega, ?_⟩
      rw [List.getD_eq_getElem?_getD, List.getElem?_append_right (by omega), show work.length + j - work.length = j by omega, List.getElem?_eq_getElem hj, hje]
      rfl
  · rw [w4, getD_append_l (by omega)] at hw
    by_cases e : j = k
    · subst e
      rw [hx] at hw
      exact w3 w.1 (List.mem_map.2 ⟨w, hw, rfl⟩)
    · exact w2 _ (h.closed j (by omega) w hw)
  · rw [w4]; simp; omega
theorem RInv.done {G : Gr} {out : List Bool} {work : List Nat} {k : Nat} (h : RInv G out work k) (h0 : 0 < G.n) (hG : G.Ok) (hk : work.length ≤ k) : out.length = G.n ∧ ∀ y, y < G.n → (out.getD y true = true ↔ Rc G y) := by
  refine ⟨h.len, fun y hy => ⟨h.sound y hy, fun hr => ?_⟩⟩
  clear hy
  induction hr with
  | zero => exact h.zero
  | @way x w hr hw ih =>
    obtain ⟨j, h1, h2⟩ := h.mem x (hr.lt hG h0) ih
    exact h.closed j (by omega) w (h2 ▸ hw)
theorem RInv.start {G : Gr} (h0 : 0 < G.n) : RInv G ((List.replicate G.n false).set 0 true) [0] 0 := by
  have hl : (List.replicate G.n false).length = G.n := by simp
  have hg : ∀ y, ((List.replicate G.n false).set 0 true).getD y true = true → y < G.n → y = 0 := fun y hy hn => by
    rw [getD_setL _ _ _ _ _ (by rw [hl]; exact h0)] at hy
    split at hy
    · omega
    · rw [List.getD_eq_getElem?_getD, List.getElem?_replicate, if_pos hn] at hy; simp at hy
  refine ⟨by simp, fun y hy hh => by rw [hg y hh hy]; exact .zero, ?_, fun y hy => ?_, fun y hy => ?_, fun y hy hh => ⟨0, by simp, by rw [hg y hh hy]; rfl⟩, fun j hj => by omega, ?_, by simp⟩
  · rw [getD_setL _ _ _ _ _ (by rw [hl]; exact h0), if_pos rfl]
  · simp at hy; omega
  · simp at hy; subst hy; exact .zero
  · have := falses_set (List.replicate G.n false) 0 (by rw [List.getD_eq_getElem?_getD, List.getElem?_replicate, if_pos h0]; rfl)
    have h2 : falses (List.replicate G.n false) = G.n := by simp [falses, List.countP_replicate]
    simp; omega
/-- What the document's passes hold. -/
structure PInv (G : Gr) (out : List Bool) : Prop where
  len : out.length = G.n
  sound : ∀ y, y < G.n → out.getD y true = true → Rc G y
  zero : out.getD 0 true = true
theorem PInv.set {G : Gr} {out : List Bool} (h : PInv G out) {p : Nat} (hp : Rc G p) (hn : p < G.n) : PInv G (out.set p true) := by
  have hs : ∀ y, (out.set p true).getD y true = if p = y then true else out.getD y true := fun y => getD_setL _ _ _ _ _ (by rw [h.len]; exact hn)
  refine ⟨by simp [h.len], fun y hy hh => ?_, ?_⟩
  · rw [hs] at hh
    split at hh
    · rename_i e; subst e; exact hp
    · exact h.sound y hy hh
  · rw [hs]; split
    · rfl
    · exact h.zero
theorem PInv.done {G : Gr} {out : List Bool} (h : PInv G out) (h0 : 0 < G.n) (hG : G.Ok) (hc : ∀ x, x < G.n → out.getD x true = true → ∀ w ∈ G.ways x, out.getD w.1 true = true) : ∀ y, y < G.n → (out.getD y true = true ↔ Rc G y) := by
  refine fun y hy => ⟨h.sound y hy, fun hr => ?_⟩
  clear hy
  induction hr with
  | zero => exact h.zero
  | way hr hw ih => exact hc _ (hr.lt hG h0) ih _ hw
theorem bools_ext {n : Nat} {a b : List Bool} (ha : a.length = n) (hb : b.length = n) (h : ∀ y, y < n → (a.getD y true = true ↔ b.getD y true = true)) : a = b := by
  refine List.ext_getElem (by omega) fun i h1 h2 => ?_
  have := h i (by omega)
  rw [List.getD_eq_getElem?_getD, List.getD_eq_getElem?_getD, List.getElem?_eq_getElem h1, List.getElem?_eq_getElem h2] at this
  simp only [Option.getD_some] at this
  cases ha : a[i] <;> cases hb : b[i] <;> simp_all
/-- The ways seen from their ends. -/
structure BackOk (G : Gr) (BB : Nat → List (Nat × List Nat)) : Prop where
  from_lt : ∀ y, y < G.n → ∀ p ∈ BB y, p.1 < G.n
  sound : ∀ y, y < G.n → ∀ p ∈ BB y, (y, p.2) ∈ G.ways p.1
  mem : ∀ x, x < G.n → ∀ w ∈ G.ways x, (x, w.2) ∈ BB w.1
def potS (BB : Nat → List (Nat × List Nat)) (L : List (List Nat)) (r : Nat) : Nat → Nat
  | 0 => 0
  | m + 1 => potS BB L r m + if hasW (L.getD m []) r then 0 else (BB m).length + 1
theorem potS_eq {BB : Nat → List (Nat × List Nat)} {L L' : List (List Nat)} {r : Nat} : ∀ (m : Nat), (∀ y, y < m → hasW (L'.getD y []) r = hasW (L.getD y []) r) → potS BB L' r m = potS BB L r m
  | 0, _ => rfl
  | m + 1, h => by rw [potS, potS, potS_eq m (fun y hy => h y (by omega)), h m (by omega)]
theorem potS_less {BB : Nat → List (Nat × List Nat)} {L L' : List (List Nat)} {r x : Nat} : ∀ (m : Nat), x < m → (∀ y, y ≠ x → hasW (L'.getD y []) r = hasW (L.getD y []) r) → hasW (L'.getD x []) r = true → hasW (L.getD x []) r = false → potS BB L' r m + ((BB x).length + 1) = potS BB L r m
  | m + 1, hx, h, h1, h2 => by
    rw [potS, potS]
    by_cases e : x = m
    · subst e
      rw [potS_eq x (fun y hy => h y (by omega)), h1, h2]
      simp
    · rw [h m (fun e' => e e'.symm)]
      have := potS_less (BB := BB) m (by omega) h h1 h2
      omega
def blens (BB : Nat → List (Nat × List Nat)) : Nat → Nat
  | 0 => 0
  | m + 1 => blens BB m + (BB m).length
theorem potS_le {BB : Nat → List (Nat × List Nat)} {L : List (List Nat)} {r : Nat} : ∀ (m : Nat), potS BB L r m ≤ blens BB m + m
  | 0 => by simp [potS]
  | m + 1 => by
    rw [potS, blens]
    have := potS_le (BB := BB) (L := L) (r := r) m
    split <;> omega
/-- What holds between two rounds of the list that a register spreads by. -/
structure SInv (G : Gr) (BB : Nat → List (Nat × List Nat)) (L0 : List (List Nat)) (r : Nat) (C : Nat) (L : List (List Nat)) (todo : List Nat) : Prop where
  ok : OkL G L
  other : ∀ y, y < G.n → ∀ q, q ≠ r → hasW (L.getD y []) q = hasW (L0.getD y []) q
  sound : ∀ y, y < G.n → hasW (L.getD y []) r = true → Lv G y r
  todo_lt : ∀ y ∈ todo, y < G.n
  todo_lv : ∀ y ∈ todo, Lv G y r
  reads : ∀ y, y < G.n → r ∈ G.reads y → hasW (L.getD y []) r = true ∨ y ∈ todo
  closed : ∀ y, y < G.n → hasW (L.getD y []) r = true → ∀ p ∈ BB y, r ∉ p.2 → hasW (L.getD p.1 []) r = true ∨ p.1 ∈ todo
  bound : todo.length + potS BB L r G.n ≤ C
theorem mem_dropLast_or {l : List Nat} (h : l ≠ []) {y : Nat} (hy : y ∈ l) : y = l.getLast h ∨ y ∈ l.dropLast := by
  rw [← List.dropLast_concat_getLast h] at hy
  rcases List.mem_append.1 hy with h1 | h1
  · exact .inr h1
  · simp at h1; exact .inl h1
theorem SInv.skip {G : Gr} {BB : Nat → List (Nat × List Nat)} {L0 : List (List Nat)} {r C : Nat} {L : List (List Nat)} {todo : List Nat} (h : SInv G BB L0 r C L todo) (hn : todo ≠ []) (hs : hasW (L.getD (todo.getLast hn) []) r = true) :
    SInv G BB L0 r (C - 1) L todo.dropLast := by
  have hsub : ∀ y ∈ todo.dropLast, y ∈ todo := fun y hy => List.dropLast_subset _ hy
  refine ⟨h.ok, h.other, h.sound, fun y hy => h.todo_lt y (hsub y hy), fun y hy => h.todo_lv y (hsub y hy), fun y hy hr => ?_, fun y hy hh p hp hq => ?_, ?_⟩
  · rcases h.reads y hy hr with h1 | h1
    · exact .inl h1
    · rcases mem_dropLast_or hn h1 with rfl | h2
      · exact .inl hs
      · exact .inr h2
  · rcases h.closed y hy hh p hp hq with h1 | h1
    · exact .inl h1
    · rcases mem_dropLast_or hn h1 with h2 | h2
      · exact .inl (h2 ▸ hs)
      · exact .inr h2
  · have := h.bound
    have hl := List.length_pos_iff.2 hn
    rw [List.length_dropLast]; omega
theorem SInv.take {G : Gr} (hG : G.Ok) {BB : Nat → List (Nat × List Nat)} (hB : BackOk G BB) {L0 : List (List Nat)} {r C : Nat} {L : List (List Nat)} {todo : List Nat} (h : SInv G BB L0 r C L todo) (hr : r < G.regs) (hn : todo ≠ []) {x : Nat} (hx : todo.getLast hn = x) (hs : hasW (L.getD x []) r = false) :
    SInv G BB L0 r (C - 1) (L.set x (setW (L.getD x []) r)) (todo.dropLast ++ ((BB x).filter fun p => !decide (r ∈ p.2)).map (·.1)) := by
  have hm : x ∈ todo := hx ▸ List.getLast_mem hn
  have hxn := h.todo_lt x hm
  have hlv := h.todo_lv x hm
  have hsub : ∀ y ∈ todo.dropLast, y ∈ todo := fun y hy => List.dropLast_subset _ hy
  have hlen : x < L.length := by rw [h.ok.len]; exact hxn
  have hrl : r / 64 < (L.getD x []).length := by rw [(h.ok.row x hxn).len]; have := G.regs_s; omega
  have hg : ∀ y, (L.set x (setW (L.getD x []) r)).getD y [] = if x = y then setW (L.getD x []) r else L.getD y [] := fun y => getD_setL _ _ _ _ _ hlen
  have hx1 : hasW ((L.set x (setW (L.getD x []) r)).getD x []) r = true := by rw [hg, if_pos rfl, has_set hrl]; simp
  have hmono : ∀ y, hasW (L.getD y []) r = true → hasW ((L.set x (setW (L.getD x []) r)).getD y []) r = true := fun y hy => by
    by_cases e : x = y
    · subst e; exact hx1
    · rw [hg, if_neg e]; exact hy
  have hfm : ∀ p, p ∈ ((BB x).filter fun p => !decide (r ∈ p.2)).map (·.1) → ∃ q ∈ BB x, r ∉ q.2 ∧ q.1 = p := fun p hp => by
    obtain ⟨q, hq, rfl⟩ := List.mem_map.1 hp
    obtain ⟨h1, h2⟩ := List.mem_filter.1 hq
    exact ⟨q, h1, by simpa using h2, rfl⟩
  refine ⟨⟨by simp [h.ok.len], fun y hy => ?_⟩, fun y hy q hq => ?_, fun y hy hh => ?_, fun y hy => ?_, fun y hy => ?_, fun y hy hh => ?_, fun y hy hh p hp hq => ?_, ?_⟩
  · rw [hg]; split
    · exact (h.ok.row x hxn).set r
    · exact h.ok.row y hy
  · rw [hg]; split
    · rename_i e; subst e
      rw [has_set hrl, ← h.other x hxn q hq]; simp [hq]
    · exact h.other y hy q hq
  · by_cases e : x = y
    · subst e; exact hlv
    · rw [hg, if_neg e] at hh; exact h.sound y hy hh
  · rcases List.mem_append.1 hy with hy | hy
    · exact h.todo_lt y (hsub y hy)
    · obtain ⟨q, h1, _, rfl⟩ := hfm y hy; exact hB.from_lt x hxn q h1
  · rcases List.mem_append.1 hy with hy | hy
    · exact h.todo_lv y (hsub y hy)
    · obtain ⟨q, h1, h2, rfl⟩ := hfm y hy
      exact .way (hB.sound x hxn q h1) h2 hlv
  · rcases h.reads y hy hh with h1 | h1
    · exact .inl (hmono y h1)
    · rcases mem_dropLast_or hn h1 with rfl | h2
      · rw [hx]; exact .inl hx1
      · exact .inr (List.mem_append.2 (.inl h2))
  · by_cases e : x = y
    · subst e
      exact .inr (List.mem_append.2 (.inr (List.mem_map.2 ⟨p, List.mem_filter.2 ⟨hp, by simpa using hq⟩, rfl⟩)))
    · rw [hg, if_neg e] at hh
      rcases h.closed y hy hh p hp hq with h1 | h1
      · exact .inl (hmono _ h1)
      · rcases mem_dropLast_or hn h1 with h2 | h2
        · rw [h2, hx]; exact .inl hx1
        · exact .inr (List.mem_append.2 (.inl h2))
  · have hb := h.bound
    have hl := List.length_pos_iff.2 hn
    have hp := potS_less (BB := BB) (L := L) (L' := L.set x (setW (L.getD x []) r)) (r := r) G.n hxn (fun y hy => by rw [hg, if_neg (fun e => hy e.symm)]) hx1 hs
    have hf := List.length_filter_le (fun p : Nat × List Nat => !decide (r ∈ p.2)) (BB x)
    rw [List.length_append, List.length_map, List.length_dropLast]
    omega
theorem SInv.done {G : Gr} (hG : G.Ok) {BB : Nat → List (Nat × List Nat)} (hB : BackOk G BB) {L0 : List (List Nat)} {r C : Nat} {L : List (List Nat)} (h : SInv G BB L0 r C L []) : ∀ y, y < G.n → (hasW (L.getD y []) r = true ↔ Lv G y r) := by
  refine fun y hy => ⟨h.sound y hy, fun hl => ?_⟩
  induction hl with
  | read hr => exact (h.reads _ hy hr).resolve_right (by simp)
  | @way x q w hw hn hl ih =>
    have hw1 := hG.to_lt _ hy _ hw
    have hh := ih h hw1
    exact (h.closed w.1 hw1 hh (x, w.2) (hB.mem x hy w hw) hn).resolve_right (by simp)
theorem SInv.start {G : Gr} {BB : Nat → List (Nat × List Nat)} {L : List (List Nat)} {r C : Nat} {todo : List Nat} (hok : OkL G L) (h0 : ∀ y, y < G.n → hasW (L.getD y []) r = false) (h1 : ∀ y ∈ todo, y < G.n ∧ r ∈ G.reads y) (h2 : ∀ y, y < G.n → r ∈ G.reads y → y ∈ todo) (hC : todo.length + (blens BB G.n + G.n) ≤ C) : SInv G BB L r C L todo := by
  refine ⟨hok, fun _ _ _ _ => rfl, fun y hy hh => (by rw [h0 y hy] at hh; cases hh), fun y hy => (h1 y hy).1, fun y hy => .read (h1 y hy).2, fun y hy hr => .inr (h2 y hy hr), fun y hy hh => (by rw [h0 y hy] at hh; cases hh), ?_⟩
  have := potS_le (BB := BB) (L := L) (r := r) G.n
  omega
/-- Two ways of saying what is live have the same rows. -/
theorem rows_ext {G : Gr} {A B : List (List Nat)} (ha : OkL G A) (hb : OkL G B) (h : ∀ y, y < G.n → ∀ q, q < 64 * G.s → hasW (A.getD y []) q = hasW (B.getD y []) q) : A = B := by
  refine List.ext_getElem (by rw [ha.len, hb.len]) fun i h1 h2 => ?_
  have hi : i < G.n := by have := ha.len; omega
  have e1 : A.getD i [] = A[i] := by simp [List.getD_eq_getElem?_getD, h1]
  have e2 : B.getD i [] = B[i] := by simp [List.getD_eq_getElem?_getD, h2]
  rw [← e1, ← e2]
  exact row_ext (ha.row i hi) (hb.row i hi) (h i hi)
end Go.Proofs.YtnniohimbmnapaaDoor
