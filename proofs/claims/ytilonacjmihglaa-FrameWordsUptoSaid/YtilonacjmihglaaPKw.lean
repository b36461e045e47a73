/- A loop over an iterator none of whose rounds leaves the loop: the statement's law, by rounds that are numbered; what a round keeps is said block by block. -/
import Derived.RangeFuncIn
import Derived.RangeFuncLeaves
import Derived.RangeFuncRecord
import Derived.RangeFuncSeq
import Derived.Below
import Derived.Laws.AppendOwn
namespace Go.Proofs.Ytilonacjmihglaa
open Go Go.RowKit
set_option linter.unusedVariables false
set_option linter.unusedSimpArgs false
/-- Whatever block of K lay in A lies in B as it lay. -/
structure Kw (K : Nat → Prop) (A B : World) : Prop where
  os : B.os = A.os
  tape : B.tape = A.tape
  output : B.output = A.output
  size : A.heap.size ≤ B.heap.size
  block : ∀ b, K b → b < A.heap.size → B.heap[b]? = A.heap[b]?
theorem Kw.refl (K : Nat → Prop) (A : World) : Kw K A A := ⟨rfl, rfl, rfl, Nat.le_refl _, fun _ _ _ => rfl⟩
theorem Kw.trans {K : Nat → Prop} {A B C : World} (h : Kw K A B) (k : Kw K B C) : Kw K A C :=
  ⟨k.os.trans h.os, k.tape.trans h.tape, k.output.trans h.output, Nat.le_trans h.size k.size, fun b hb hl => (k.block b hb (Nat.lt_of_lt_of_le hl h.size)).trans (h.block b hb hl)⟩
theorem Kw.mono {K K' : Nat → Prop} {A B : World} (h : Kw K A B) (hk : ∀ b, K' b → b < A.heap.size → K b) : Kw K' A B :=
  ⟨h.os, h.tape, h.output, h.size, fun b hb hl => h.block b (hk b hb hl) hl⟩
theorem Kw.of_below {A B : World} {n : Nat} (h : Below n A B) : Kw (fun b => b < n) A B := ⟨h.os, h.tape, h.output, h.size, fun b hb _ => h.block b hb⟩
theorem Kw.all {K : Nat → Prop} {A B : World} (h : Below A.heap.size A B) : Kw K A B := ⟨h.os, h.tape, h.output, h.size, fun b _ hl => h.block b hl⟩
theorem Kw.below {K : Nat → Prop} {A B : World} {n : Nat} (h : Kw K A B) (hn : n ≤ A.heap.size) (hk : ∀ b, b < n → K b) : Below n A B :=
  ⟨h.os, h.tape, h.output, h.size, fun b hb => h.block b (hk b hb) (Nat.lt_of_lt_of_le hb hn)⟩
theorem Kw.put (K : Nat → Prop) (A : World) (l : Nat) (o : Obj) (hl : ¬ K l) : Kw K A (A.putObj l o) :=
  ⟨rfl, rfl, rfl, Nat.le_of_eq (by simp), fun b hb _ => World.putObj_heap_other (fun e => hl (e ▸ hb))⟩
theorem Kw.alloc {K : Nat → Prop} {A B : World} (h : Kw K A B) (o : Obj) : Kw K A (B.alloc o) :=
  h.trans (Kw.all ((Below.refl _ B).alloc (Nat.le_refl _) o))
theorem Kw.grown {K : Nat → Prop} {A B C : World} {row : Option Nat} (h : Kw K A B) (hg : B.grownBy C row) (hr : ∀ k, row = some k → ¬ K k) : Kw K A C :=
  h.trans ⟨hg.os, hg.tape, hg.output, hg.size, fun b hb hl => hg.block b hl (fun e => hr b e.symm hb)⟩
theorem Kw.setCell {K : Nat → Prop} {A B : World} (h : Kw K A B) (p : Addr) (v : Value) (hp : ¬ K p.block) : Kw K A (B.setCell p v) :=
  h.trans ⟨rfl, rfl, rfl, (KeepsWalks.setCell B p v).size, fun b hb _ => Below.heap_setCell _ _ _ b (fun e => hp (e ▸ hb))⟩
theorem Kw.heap {K : Nat → Prop} {A B : World} (h : Kw K A B) {b : Nat} {o : Obj} (hb : K b) (ho : A.heap[b]? = some o) : B.heap[b]? = some o :=
  (h.block b hb (Array.getElem?_eq_some_iff.1 ho).1).trans ho
/-- What the function that is ranged over promises: N rounds, the k-th of them handed what It k says; the rounds keep what K names and the blocks that it has laid itself ahead of its first round (below E). -/
def GivesE (P : Program) (gf : Nat) (lb : Array Value) (N : Nat) (It : Nat → World → Array Value → Prop) (K : Nat → Prop) (W : World) : Prop :=
  ∀ (l : Nat) (J : Nat → Nat → World → Prop),
    (∀ E k A B, W.heap.size ≤ E → J E k A → Kw (fun _ => True) A B → J E k B) →
    (∀ E k A args, W.heap.size ≤ E → E ≤ A.heap.size → k < N → J E k A → It k A args → YieldAt Fence.wide 0 P l args A fun e B => e = .returned (.bool true) ∧ J E (k + 1) B ∧ Kw (fun b => K b ∨ (W.heap.size ≤ b ∧ b < E)) A B) →
    (∀ E, W.heap.size ≤ E → J E 0 W) →
    CallsIn Fence.wide 0 P gf (#[.func (.yield l) #[] #[]] ++ lb) W fun e B => (∃ v, e = .returned v) ∧ ∃ E, W.heap.size ≤ E ∧ J E N B
/-- What a round keeps, S the heap's size where the loop begins. -/
def RoundK (S : Nat) (K : Nat → Prop) (E : Nat) (b : Nat) : Prop := b = S ∨ b = S + 1 ∨ K b ∨ (S + 2 ≤ b ∧ b < E)
theorem wp_rangeE {P : Program} {g : Operand} {ps : Array Tmp} {assign body : Code} {Q : Exit → Act → World → Prop} {a : Act} {w : World}
    {gf : Nat} {lb : Array Value} (hg : a.eval g = .func (.func gf) #[] lb) (eg : ∀ args w, (callFunc gf args).run P w = .ok (.enter gf args) w)
    {N : Nat} {It : Nat → World → Array Value → Prop} {K : Nat → Prop}
    (hseq : ∀ W, Kw (fun _ => True) w W → W.heap.size = w.heap.size + 2 → GivesE P gf lb N It K W)
    (hKs : ∀ b, K b → b < w.heap.size) (hps : ∀ k A args, It k A args → args.size = ps.size)
    (J : Nat → Nat → World → Prop)
    (hJ : ∀ E k A B, w.heap.size + 2 ≤ E → J E k A → Kw (fun b => b ≠ w.heap.size ∧ b ≠ w.heap.size + 1) A B → J E k B)
    (hItp : ∀ k A B args, It k A args → Kw (fun b => b ≠ w.heap.size + 1) A B → It k B args)
    (h0 : ∀ E, J E 0 w)
    (hround : ∀ (l E k : Nat) (args : Array Value) (A : World), w.heap.size + 2 ≤ E → E ≤ A.heap.size → k < N → J E k A → It k A args →
      assign.wpIn (Fence.wide.inRound l) 0 P (Exit.then (fun a₁ A₁ => A₁ = A ∧ ∀ A', E ≤ A'.heap.size → J E k A' → It k A' args →
        body.wpIn (Fence.wide.inRound l) 0 P (fun e _ B => e = .normal ∧ J E (k + 1) B ∧ Kw (RoundK w.heap.size K E) A' B) a₁ A') (fun _ _ _ => False)) { tmps := (ps.zip args).foldl (fun t (p, v) => t.setIfInBounds p v) a.tmps, defers := [] } A)
    (hdone : ∀ (E : Nat) (W : World), w.heap.size + 2 ≤ E → J E N W → W.heap[w.heap.size]? = some (.deferred (some [])) → Q .normal { a with defers := { target := .collected w.heap.size, args := #[] } :: a.defers } W) :
    (Code.rangeFunc g ps assign body).wp P Q a w := by
  refine (wpIn_wide (n := 0)).1 (wpIn_rangeFunc ?_)
  intro fn hfn
  rw [show Fence.wide.round = none from rfl]
  obtain ⟨rec, hrec⟩ : ∃ rec : LoopState → Option Code → Loop, rec = fun st pe => { state := st, pending := pe, fn, tmps := a.tmps, params := ps, assign, body, defers := w.heap.size } := ⟨_, rfl⟩
  obtain ⟨W1, hW1⟩ : ∃ W1, (w.alloc (.deferred (some []))).alloc (.loop (rec .ready none)) = W1 := ⟨_, rfl⟩
  have sz : W1.heap.size = w.heap.size + 2 := by rw [← hW1]; simp
  have kw1 : Kw (fun _ => True) w W1 := by rw [← hW1]; exact ((Kw.refl _ w).alloc _).alloc _
  have hL1 : W1.heap[w.heap.size + 1]? = some (.loop (rec .ready none)) := by
    have := World.alloc_heap_new (w.alloc (.deferred (some []))) (.loop (rec .ready none))
    rwa [World.size_alloc, hW1] at this
  have hD1 : W1.heap[w.heap.size]? = some (.deferred (some [])) := by
    rw [← hW1]; exact (Below.heap_alloc _ _ _ (by simp)).trans (World.alloc_heap_new w _)
  refine ⟨w.heap.size + 1, [{ target := .collected w.heap.size, args := #[] }], W1, { target := .fn (.func gf) lb, args := #[.func (.yield (w.heap.size + 1)) #[] #[]] }, W1, gf,
    #[.func (.yield (w.heap.size + 1)) #[] #[]] ++ lb, W1, ?_, ?_, ?_, ?_, fun h => (by cases h), ?_⟩
  · rw [← hW1, hrec]; exact run_enterLoop_outer _ _ _ _ _
  · simp only [resolve, hg]
    simp [go_sem]
  · intro f' _; trivial
  · simp [invoke, go_sem, eg]
  · refine (hseq W1 kw1 sz (w.heap.size + 1) (fun E k W => J E k W ∧ W.heap[w.heap.size + 1]? = some (.loop (rec .ready none)) ∧ W.heap[w.heap.size]? = some (.deferred (some []))) ?_ ?_ ?_).mono ?_
    · intro E k A B hE hj hk
      exact ⟨hJ E k A B (by omega) hj.1 (hk.mono fun _ _ _ => trivial), hk.heap trivial hj.2.1, hk.heap trivial hj.2.2⟩
    · rintro E k A args hE hEA hkN ⟨hj, hl, hd⟩ hit
      have hy := run_yield (P := P) (args := args) hl (by rw [hrec]; exact hps k A args hit)
      rw [hrec] at hy
      refine ⟨fn, _, assign, body, hy, roundIn_of_wpIn hfn (wpIn_mono (hround (w.heap.size + 1) E k args A (by omega) hEA hkN hj hit) ?_)⟩
      intro e a1 A1 he
      cases e <;> simp only [Exit.then] at he ⊢
      obtain ⟨rfl, hbody⟩ := he
      refine ⟨_, run_beginRound hl (by rw [hrec]), ?_⟩
      obtain ⟨A', hA'⟩ : ∃ A', A1.putObj (w.heap.size + 1) (.loop { rec .ready none with state := .busy }) = A' := ⟨_, rfl⟩
      have hA2 : A'.heap[w.heap.size + 1]? = some (.loop { rec .ready none with state := .busy }) := by rw [← hA']; exact World.putObj_heap_same (Array.getElem?_eq_some_iff.1 hl).1
      have kA : Kw (fun b => b ≠ w.heap.size + 1) A1 A' := by rw [← hA']; exact Kw.put _ _ _ _ (fun h => h rfl)
      have hd2 : A'.heap[w.heap.size]? = some (.deferred (some [])) := kA.heap (by omega) hd
      rw [hA']
      refine wpIn_mono (hbody A' (Nat.le_trans hEA kA.size) (hJ E k A1 A' (by omega) hj (kA.mono fun _ h _ => h.2)) (hItp k A1 A' args hit kA)) ?_
      rintro e a3 B ⟨rfl, hj3, hk3⟩
      have hl3 := hk3.heap (.inr (.inl rfl)) hA2
      have hd3 := hk3.heap (.inl rfl) hd2
      have hend := run_endRound (P := P) none hl3
      have kB : Kw (fun b => b ≠ w.heap.size + 1) B (B.putObj (w.heap.size + 1) (.loop (rec .ready none))) := Kw.put _ _ _ _ (fun h => h rfl)
      have hE1 : ({ ({ rec .ready none with state := .busy } : Loop) with state := if (none : Option Code).isNone then .ready else .done, pending := none } : Loop) = rec .ready none := by rw [hrec]; rfl
      rw [hE1] at hend
      refine ⟨_, _, hend, rfl, ⟨hJ E (k + 1) B _ (by omega) hj3 (kB.mono fun _ h _ => h.2), World.putObj_heap_same (Array.getElem?_eq_some_iff.1 hl3).1, kB.heap (by omega) hd3⟩, ?_⟩
      refine (kA.mono (fun b hb hlt => ?_)).trans ((hk3.mono fun b hb hlt => ?_).trans (kB.mono fun b hb hlt => ?_))
      · rcases hb with h | h
        · have := hKs b h; omega
        · omega
      · rcases hb with h | h
        · exact .inr (.inr (.inl h))
        · exact .inr (.inr (.inr (by omega)))
      · rcases hb with h | h
        · have := hKs b h; omega
        · omega
    · intro E hE
      exact ⟨hJ E 0 w W1 (by omega) (h0 E) (kw1.mono fun _ _ _ => trivial), hL1, hD1⟩
    · rintro e W2 ⟨⟨v, rfl⟩, E, hE, hj, hl, hd⟩
      have kB : Kw (fun b => b ≠ w.heap.size + 1) W2 (W2.putObj (w.heap.size + 1) (.loop { rec .ready none with state := .exhausted })) := Kw.put _ _ _ _ (fun h => h rfl)
      have hend := run_endLoop (P := P) hl (by rw [hrec]; simp)
      refine ⟨none, W2.putObj (w.heap.size + 1) (.loop { rec .ready none with state := .exhausted }), by rw [hend, hrec], ?_⟩
      exact hdone E _ (by omega) (hJ E N W2 _ (by omega) hj (kB.mono fun _ h _ => h.2)) (kB.heap (by omega) hd)
/-- The marks of loops over iterators that an activation has gone through. -/
def Marks (S : Nat) (ds : List Deferred) (W : World) : Prop :=
  ∃ Ds : List Nat, ds = Ds.map (fun D => { target := .collected D, args := #[] }) ∧ Ds.Nodup ∧ ∀ D ∈ Ds, S ≤ D ∧ W.heap[D]? = some (.deferred (some []))
theorem Marks.nil (S : Nat) (W : World) : Marks S [] W := ⟨[], rfl, List.nodup_nil, fun _ h => by cases h⟩
theorem Marks.keep {S : Nat} {ds : List Deferred} {A B : World} (h : Marks S ds A) {K : Nat → Prop} (hk : Kw K A B) (hK : ∀ D, S ≤ D → A.heap[D]? = some (.deferred (some [])) → K D) : Marks S ds B := by
  obtain ⟨Ds, h1, h2, h3⟩ := h
  exact ⟨Ds, h1, h2, fun D hD => ⟨(h3 D hD).1, hk.heap (hK D (h3 D hD).1 (h3 D hD).2) (h3 D hD).2⟩⟩
theorem Marks.cons {S : Nat} {ds : List Deferred} {A : World} {D : Nat} (h : Marks S ds A) (hS : S ≤ D) (hD : A.heap[D]? = some (.deferred (some []))) (hne : ∀ d ∈ ds, d ≠ { target := .collected D, args := #[] }) : Marks S ({ target := .collected D, args := #[] } :: ds) A := by
  obtain ⟨Ds, rfl, h2, h3⟩ := h
  refine ⟨D :: Ds, rfl, List.nodup_cons.2 ⟨fun hm => hne _ (List.mem_map.2 ⟨D, hm, rfl⟩) rfl, h2⟩, fun D' hD' => ?_⟩
  rcases List.mem_cons.1 hD' with rfl | h
  · exact ⟨hS, hD⟩
  · exact h3 D' h
theorem Marks.fresh {S : Nat} {ds : List Deferred} {A : World} (h : Marks S ds A) {D : Nat} (hD : A.heap.size ≤ D) : ∀ d ∈ ds, d ≠ { target := .collected D, args := #[] } := by
  obtain ⟨Ds, rfl, h2, h3⟩ := h
  intro d hd
  obtain ⟨D', hD', rfl⟩ := List.mem_map.1 hd
  intro e
  have hlt := (Array.getElem?_eq_some_iff.1 (h3 D' hD').2).1
  have : D' = D := by simpa using e
  omega
theorem leaves_marks {P : Program} {fn : Func} {tmps : Array Value} {R : Ending → World → Prop} {S : Nat} : ∀ (ds : List Deferred) (W : World), Marks S ds W → 
    (∀ W', Kw (fun b => b < S ∨ W.heap[b]? ≠ some (.deferred (some []))) W W' → LeavesIn Fence.wide 0 P fn tmps R [] .returning W') → LeavesInM Fence.wide 0 P fn tmps R ds .returning W := by
  intro ds
  induction ds with
  | nil => intro W _ h; exact h W (Kw.refl _ _)
  | cons d ds ih =>
    intro W hm h
    obtain ⟨Ds, hds, hn, hD⟩ := hm
    cases Ds with
    | nil => simp at hds
    | cons D Ds =>
      simp only [List.map_cons, List.cons.injEq] at hds
      obtain ⟨rfl, rfl⟩ := hds
      obtain ⟨hn1, hn2⟩ := List.nodup_cons.1 hn
      have h1 := hD D (by simp)
      have kp : Kw (fun b => b ≠ D) W (W.putObj D (.deferred none)) := Kw.put _ _ _ _ (fun h => h rfl)
      refine ⟨by simp, .inl ⟨D, _, rfl, run_takeDeferred h1.2, ih _ ⟨Ds, rfl, hn2, fun D' hD' => ?_⟩ fun W' hk => ?_⟩⟩
      · have h2 := hD D' (by simp [hD'])
        exact ⟨h2.1, kp.heap (fun e => hn1 (e ▸ hD')) h2.2⟩
      · refine h W' ((kp.mono fun b hb hlt => ?_).trans (hk.mono fun b hb hlt => ?_))
        · rintro rfl
          rcases hb with hb | hb
          · omega
          · exact hb h1.2
        · rcases hb with hb | hb
          · exact .inl hb
          · refine .inr fun e => hb ?_
            by_cases hbD : b = D
            · subst hbD
              rw [World.putObj_heap_same (Array.getElem?_eq_some_iff.1 h1.2).1] at e
              cases e
            · rw [← e]; exact (World.putObj_heap_other hbD).symm
/-- A function that holds loops over iterators, from its body's walk. -/
theorem calls_of_marks {P : Program} {f : FuncId} {fn : Func} {c : Code} {args : Array Value} {w : World} {R : Ending → World → Prop} (hf : P.funcs[f]? = some fn) (hb : fn.body = some c)
    (h : c.wp P (bodyPostM Fence.wide 0 P fn R) { tmps := args ++ Array.replicate (fn.ntmps - args.size) undef, defers := [] } w) : Calls P f args w R :=
  (callsIn_wide (n := 0)).1 (callsIn_of_wp_marks hf hb trivial (wpIn_wide.2 h))
end Go.Proofs.Ytilonacjmihglaa
