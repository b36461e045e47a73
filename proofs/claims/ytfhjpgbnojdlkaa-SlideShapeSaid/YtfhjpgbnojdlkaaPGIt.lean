/- A loop over an iterator that reads memory which the rounds write: what it may read is said of every round (R). As XKw's. A loop over an iterator within a round of another one: as XIt's. -/
import Derived.Test.YtfhjpgbnojdlkaaPKw
import Derived.RangeFuncNested
namespace Go.Proofs.Ytfhjpgbnojdlkaa
section
open Go Go.RowKit
set_option linter.unusedVariables false
set_option linter.unusedSimpArgs false
/-- What the function that is ranged over promises: N rounds, the k-th of them handed what It k says; the rounds keep what K names and the blocks that it has laid itself ahead of its first round (below E). -/
def GivesJ (P : Program) (gf : Nat) (lb : Array Value) (N : Nat) (It : Nat → World → Array Value → Prop) (K : Nat → Prop) (R : Nat → World → Prop) (W : World) : Prop :=
  ∀ (l : Nat) (J : Nat → Nat → World → Prop),
    (∀ E k A, W.heap.size ≤ E → J E k A → R k A) →
    (∀ E k A B, W.heap.size ≤ E → J E k A → Kw (fun _ => True) A B → J E k B) →
    (∀ E k A args, W.heap.size ≤ E → E ≤ A.heap.size → k < N → J E k A → It k A args → YieldAt Fence.wide 0 P l args A fun e B => e = .returned (.bool true) ∧ J E (k + 1) B ∧ Kw (fun b => K b ∨ (W.heap.size ≤ b ∧ b < E)) A B) →
    (∀ E, W.heap.size ≤ E → J E 0 W) →
    CallsIn Fence.wide 0 P gf (#[.func (.yield l) #[] #[]] ++ lb) W fun e B => (∃ v, e = .returned v) ∧ ∃ E, W.heap.size ≤ E ∧ J E N B
theorem wp_rangeJ {P : Program} {g : Operand} {ps : Array Tmp} {assign body : Code} {Q : Exit → Act → World → Prop} {a : Act} {w : World}
    {gf : Nat} {lb : Array Value} (hg : a.eval g = .func (.func gf) #[] lb) (eg : ∀ args w, (callFunc gf args).run P w = .ok (.enter gf args) w)
    {N : Nat} {It : Nat → World → Array Value → Prop} {K : Nat → Prop} {R : Nat → World → Prop}
    (hseq : ∀ W, Kw (fun _ => True) w W → W.heap.size = w.heap.size + 2 → GivesJ P gf lb N It K R W)
    (hKs : ∀ b, K b → b < w.heap.size) (hps : ∀ k A args, It k A args → args.size = ps.size)
    (J : Nat → Nat → World → Prop)
    (hR : ∀ E k A, w.heap.size + 2 ≤ E → J E k A → R k A)
    (hJ : ∀ E k A B, w.heap.size + 2 ≤ E → J E k A → Kw (fun b => b ≠ w.heap.size ∧ b ≠ w.heap.size + 1) A B → J E k B)
    (hItp : ∀ k A B args, It k A args → Kw (fun b => b ≠ w.heap.size + 1) A B → It k B args)
    (h0 : ∀ E, J E 0 w)
    (hround : ∀ (l E k : Nat) (args : Array Value) (A : World), w.heap.size + 2 ≤ E → E ≤ A.heap.size → k < N → J E k A → It k A args →
      assign.wpIn (Fence.wide.inRound l) 0 P (Exit.then (fun a₁ A₁ => A₁ = A ∧ ∀ A', E ≤ A'.heap.size → J E k A' → It k A' args →
        body.wpIn (Fence.wide.inRound l) 0 P (fun e _ B => e = .normal ∧ J E (k + 1) B ∧ Kw (RoundK w.heap.size K E) A' B) a₁ A') (fun _ _ _ => False)) { tmps := (ps.zip args).foldl (fun t (p, v) => t.setIfInBounds p v) a.tmps, defers := [] } A)
    (hdone : ∀ (E : Nat) (W : World), w.heap.size + 2 ≤ E → J E N W → W.heap[w.heap.size]? = some (.deferred (some [])) → Q .normal { a with defers := { target := .collected w.heap.size, args := #[] } :: a.defers } W) :
    (Code.rangeFunc g ps assign body).wp P Q a w := by
  refine (wpIn_wide (n := 0)).1 (wpIn_rangeFunc ?_)
  intro fn hfn
  rw [show Fence.wide.round = none from rfl]
  obtain ⟨rec, hrec⟩ : ∃ rec : LoopState → Option Code → Loop, rec = fun st pe => { state := st, pending := pe, fn, tmps := a.tmps, params := ps, assign, body, defers := w.heap.size } := ⟨_, rfl⟩
  obtain ⟨W1, hW1⟩ : ∃ W1, (w.alloc (.deferred (some []))).alloc (.loop (rec .ready none)) = W1 := ⟨_, rfl⟩
  have sz : W1.heap.size = w.heap.size + 2 := by rw [← hW1]; simp
  have kw1 : Kw (fun _ => True) w W1 := by rw [← hW1]; exact ((Kw.refl _ w).alloc _).alloc _
  have hL1 : W1.heap[w.heap.size + 1]? = some (.loop (rec .ready none)) := by
    have := World.alloc_heap_new (w.alloc (.deferred (some []))) (.loop (rec .ready none))
    rwa [World.size_alloc, hW1] at this
  have hD1 : W1.heap[w.heap.size]? = some (.deferred (some [])) := by
    rw [← hW1]; exact (Below.heap_alloc _ _ _ (by simp)).trans (World.alloc_heap_new w _)
  refine ⟨w.heap.size + 1, [{ target := .collected w.heap.size, args := #[] }], W1, { target := .fn (.func gf) lb, args := #[.func (.yield (w.heap.size + 1)) #[] #[]] }, W1, gf,
    #[.func (.yield (w.heap.size + 1)) #[] #[]] ++ lb, W1, ?_, ?_, ?_, ?_, fun h => (by cases h), ?_⟩
  · rw [← hW1, hrec]; exact run_enterLoop_outer _ _ _ _ _
  · simp only [resolve, hg]
    simp [go_sem]
  · intro f' _; trivial
  · simp [invoke, go_sem, eg]
  · refine (hseq W1 kw1 sz (w.heap.size + 1) (fun E k W => J E k W ∧ W.heap[w.heap.size + 1]? = some (.loop (rec .ready none)) ∧ W.heap[w.heap.size]? = some (.deferred (some []))) (fun E k A hE hj => hR E k A (by omega) hj.1) ?_ ?_ ?_).mono ?_
    · intro E k A B hE hj hk
      exact ⟨hJ E k A B (by omega) hj.1 (hk.mono fun _ _ _ => trivial), hk.heap trivial hj.2.1, hk.heap trivial hj.2.2⟩
    · rintro E k A args hE hEA hkN ⟨hj, hl, hd⟩ hit
      have hy := run_yield (P := P) (args := args) hl (by rw [hrec]; exact hps k A args hit)
      rw [hrec] at hy
      refine ⟨fn, _, assign, body, hy, roundIn_of_wpIn hfn (wpIn_mono (hround (w.heap.size + 1) E k args A (by omega) hEA hkN hj hit) ?_)⟩
      intro e a1 A1 he
      cases e <;> simp only [Exit.then] at he ⊢
      obtain ⟨rfl, hbody⟩ := he
      refine ⟨_, run_beginRound hl (by rw [hrec]), ?_⟩
      obtain ⟨A', hA'⟩ : ∃ A', A1.putObj (w.heap.size + 1) (.loop { rec .ready none with state := .busy }) = A' := ⟨_, rfl⟩
      have hA2 : A'.heap[w.heap.size + 1]? = some (.loop { rec .ready none with state := .busy }) := by rw [← hA']; exact World.putObj_heap_same (Array.getElem?_eq_some_iff.1 hl).1
      have kA : Kw (fun b => b ≠ w.heap.size + 1) A1 A' := by rw [← hA']; exact Kw.put _ _ _ _ (fun h => h rfl)
      have hd2 : A'.heap[w.heap.size]? = some (.deferred (some [])) := kA.heap (by omega) hd
      rw [hA']
      refine wpIn_mono (hbody A' (Nat.le_trans hEA kA.size) (hJ E k A1 A' (by omega) hj (kA.mono fun _ h _ => h.2)) (hItp k A1 A' args hit kA)) ?_
      rintro e a3 B ⟨rfl, hj3, hk3⟩
      have hl3 := hk3.heap (.inr (.inl rfl)) hA2
      have hd3 := hk3.heap (.inl rfl) hd2
      have hend := run_endRound (P := P) none hl3
      have kB : Kw (fun b => b ≠ w.heap.size + 1) B (B.putObj (w.heap.size + 1) (.loop (rec .ready none))) := Kw.put _ _ _ _ (fun h => h rfl)
      have hE1 : ({ ({ rec .ready none with state := .busy } : Loop) with state := if (none : Option Code).isNone then .ready else .done, pending := none } : Loop) = rec .ready none := by rw [hrec]; rfl
      rw [hE1] at hend
      refine ⟨_, _, hend, rfl, ⟨hJ E (k + 1) B _ (by omega) hj3 (kB.mono fun _ h _ => h.2), World.putObj_heap_same (Array.getElem?_eq_some_iff.1 hl3).1, kB.heap (by omega) hd3⟩, ?_⟩
      refine (kA.mono (fun b hb hlt => ?_)).trans ((hk3.mono fun b hb hlt => ?_).trans (kB.mono fun b hb hlt => ?_))
      · rcases hb with h | h
        · have := hKs b h; omega
        · omega
      · rcases hb with h | h
        · exact .inr (.inr (.inl h))
        · exact .inr (.inr (.inr (by omega)))
      · rcases hb with h | h
        · have := hKs b h; omega
        · omega
    · intro E hE
      exact ⟨hJ E 0 w W1 (by omega) (h0 E) (kw1.mono fun _ _ _ => trivial), hL1, hD1⟩
    · rintro e W2 ⟨⟨v, rfl⟩, E, hE, hj, hl, hd⟩
      have kB : Kw (fun b => b ≠ w.heap.size + 1) W2 (W2.putObj (w.heap.size + 1) (.loop { rec .ready none with state := .exhausted })) := Kw.put _ _ _ _ (fun h => h rfl)
      have hend := run_endLoop (P := P) hl (by rw [hrec]; simp)
      refine ⟨none, W2.putObj (w.heap.size + 1) (.loop { rec .ready none with state := .exhausted }), by rw [hend, hrec], ?_⟩
      exact hdone E _ (by omega) (hJ E N W2 _ (by omega) hj (kB.mono fun _ h _ => h.2)) (kB.heap (by omega) hd)
end
section
open Go Go.RowKit
set_option linter.unusedVariables false
set_option linter.unusedSimpArgs false
theorem wp_rangeJ2 {P : Program} {g : Operand} {ps : Array Tmp} {assign body : Code} {Q : Exit → Act → World → Prop} {a : Act} {w : World}
    {gf : Nat} {lb : Array Value} (hg : a.eval g = .func (.func gf) #[] lb) (eg : ∀ args w, (callFunc gf args).run P w = .ok (.enter gf args) w)
    {N : Nat} {It : Nat → World → Array Value → Prop} {K : Nat → Prop} {R : Nat → World → Prop}
    (hseq : ∀ W, Kw (fun _ => True) w W → W.heap.size = w.heap.size + 2 → GivesJ P gf lb N It K R W)
    (hKs : ∀ b, K b → b < w.heap.size) (hps : ∀ k A args, It k A args → args.size = ps.size)
    (J : Nat → Nat → World → Prop)
    (hR : ∀ E k A, w.heap.size + 2 ≤ E → J E k A → R k A)
    (hJ : ∀ E k A B, w.heap.size + 2 ≤ E → J E k A → Kw (fun b => b ≠ w.heap.size ∧ b ≠ w.heap.size + 1) A B → J E k B)
    (hItp : ∀ k A B args, It k A args → Kw (fun b => b ≠ w.heap.size + 1) A B → It k B args)
    (h0 : ∀ E, J E 0 w)
    (hround : ∀ (l E k : Nat) (args : Array Value) (A : World), l = w.heap.size + 1 → w.heap.size + 2 ≤ E → E ≤ A.heap.size → k < N → J E k A → It k A args →
      assign.wpIn (Fence.wide.inRound l) 0 P (Exit.then (fun a₁ A₁ => A₁ = A ∧ ∀ A', E ≤ A'.heap.size → (∃ r, A'.heap[l]? = some (.loop r)) → J E k A' → It k A' args →
        body.wpIn (Fence.wide.inRound l) 0 P (fun e _ B => e = .normal ∧ J E (k + 1) B ∧ Kw (RoundK w.heap.size K E) A' B) a₁ A') (fun _ _ _ => False)) { tmps := (ps.zip args).foldl (fun t (p, v) => t.setIfInBounds p v) a.tmps, defers := [] } A)
    (hdone : ∀ (E : Nat) (W : World), w.heap.size + 2 ≤ E → J E N W → W.heap[w.heap.size]? = some (.deferred (some [])) → Q .normal { a with defers := { target := .collected w.heap.size, args := #[] } :: a.defers } W) :
    (Code.rangeFunc g ps assign body).wp P Q a w := by
  refine (wpIn_wide (n := 0)).1 (wpIn_rangeFunc ?_)
  intro fn hfn
  rw [show Fence.wide.round = none from rfl]
  obtain ⟨rec, hrec⟩ : ∃ rec : LoopState → Option Code → Loop, rec = fun st pe => { state := st, pending := pe, fn, tmps := a.tmps, params := ps, assign, body, defers := w.heap.size } := ⟨_, rfl⟩
  obtain ⟨W1, hW1⟩ : ∃ W1, (w.alloc (.deferred (some []))).alloc (.loop (rec .ready none)) = W1 := ⟨_, rfl⟩
  have sz : W1.heap.size = w.heap.size + 2 := by rw [← hW1]; simp
  have kw1 : Kw (fun _ => True) w W1 := by rw [← hW1]; exact ((Kw.refl _ w).alloc _).alloc _
  have hL1 : W1.heap[w.heap.size + 1]? = some (.loop (rec .ready none)) := by
    have := World.alloc_heap_new (w.alloc (.deferred (some []))) (.loop (rec .ready none))
    rwa [World.size_alloc, hW1] at this
  have hD1 : W1.heap[w.heap.size]? = some (.deferred (some [])) := by
    rw [← hW1]; exact (Below.heap_alloc _ _ _ (by simp)).trans (World.alloc_heap_new w _)
  refine ⟨w.heap.size + 1, [{ target := .collected w.heap.size, args := #[] }], W1, { target := .fn (.func gf) lb, args := #[.func (.yield (w.heap.size + 1)) #[] #[]] }, W1, gf,
    #[.func (.yield (w.heap.size + 1)) #[] #[]] ++ lb, W1, ?_, ?_, ?_, ?_, fun h => (by cases h), ?_⟩
  · rw [← hW1, hrec]; exact run_enterLoop_outer _ _ _ _ _
  · simp only [resolve, hg]
    simp [go_sem]
  · intro f' _; trivial
  · simp [invoke, go_sem, eg]
  · refine (hseq W1 kw1 sz (w.heap.size + 1) (fun E k W => J E k W ∧ W.heap[w.heap.size + 1]? = some (.loop (rec .ready none)) ∧ W.heap[w.heap.size]? = some (.deferred (some []))) (fun E k A hE hj => hR E k A (by omega) hj.1) ?_ ?_ ?_).mono ?_
    · intro E k A B hE hj hk
      exact ⟨hJ E k A B (by omega) hj.1 (hk.mono fun _ _ _ => trivial), hk.heap trivial hj.2.1, hk.heap trivial hj.2.2⟩
    · rintro E k A args hE hEA hkN ⟨hj, hl, hd⟩ hit
      have hy := run_yield (P := P) (args := args) hl (by rw [hrec]; exact hps k A args hit)
      rw [hrec] at hy
      refine ⟨fn, _, assign, body, hy, roundIn_of_wpIn hfn (wpIn_mono (hround (w.heap.size + 1) E k args A rfl (by omega) hEA hkN hj hit) ?_)⟩
      intro e a1 A1 he
      cases e <;> simp only [Exit.then] at he ⊢
      obtain ⟨rfl, hbody⟩ := he
      refine ⟨_, run_beginRound hl (by rw [hrec]), ?_⟩
      obtain ⟨A', hA'⟩ : ∃ A', A1.putObj (w.heap.size + 1) (.loop { rec .ready none with state := .busy }) = A' := ⟨_, rfl⟩
      have hA2 : A'.heap[w.heap.size + 1]? = some (.loop { rec .ready none with state := .busy }) := by rw [← hA']; exact World.putObj_heap_same (Array.getElem?_eq_some_iff.1 hl).1
      have kA : Kw (fun b => b ≠ w.heap.size + 1) A1 A' := by rw [← hA']; exact Kw.put _ _ _ _ (fun h => h rfl)
      have hd2 : A'.heap[w.heap.size]? = some (.deferred (some [])) := kA.heap (by omega) hd
      rw [hA']
      refine wpIn_mono (hbody A' (Nat.le_trans hEA kA.size) ⟨_, hA2⟩ (hJ E k A1 A' (by omega) hj (kA.mono fun _ h _ => h.2)) (hItp k A1 A' args hit kA)) ?_
      rintro e a3 B ⟨rfl, hj3, hk3⟩
      have hl3 := hk3.heap (.inr (.inl rfl)) hA2
      have hd3 := hk3.heap (.inl rfl) hd2
      have hend := run_endRound (P := P) none hl3
      have kB : Kw (fun b => b ≠ w.heap.size + 1) B (B.putObj (w.heap.size + 1) (.loop (rec .ready none))) := Kw.put _ _ _ _ (fun h => h rfl)
      have hE1 : ({ ({ rec .ready none with state := .busy } : Loop) with state := if (none : Option Code).isNone then .ready else .done, pending := none } : Loop) = rec .ready none := by rw [hrec]; rfl
      rw [hE1] at hend
      refine ⟨_, _, hend, rfl, ⟨hJ E (k + 1) B _ (by omega) hj3 (kB.mono fun _ h _ => h.2), World.putObj_heap_same (Array.getElem?_eq_some_iff.1 hl3).1, kB.heap (by omega) hd3⟩, ?_⟩
      refine (kA.mono (fun b hb hlt => ?_)).trans ((hk3.mono fun b hb hlt => ?_).trans (kB.mono fun b hb hlt => ?_))
      · rcases hb with h | h
        · have := hKs b h; omega
        · omega
      · rcases hb with h | h
        · exact .inr (.inr (.inl h))
        · exact .inr (.inr (.inr (by omega)))
      · rcases hb with h | h
        · have := hKs b h; omega
        · omega
    · intro E hE
      exact ⟨hJ E 0 w W1 (by omega) (h0 E) (kw1.mono fun _ _ _ => trivial), hL1, hD1⟩
    · rintro e W2 ⟨⟨v, rfl⟩, E, hE, hj, hl, hd⟩
      have kB : Kw (fun b => b ≠ w.heap.size + 1) W2 (W2.putObj (w.heap.size + 1) (.loop { rec .ready none with state := .exhausted })) := Kw.put _ _ _ _ (fun h => h rfl)
      have hend := run_endLoop (P := P) hl (by rw [hrec]; simp)
      refine ⟨none, W2.putObj (w.heap.size + 1) (.loop { rec .ready none with state := .exhausted }), by rw [hend, hrec], ?_⟩
      exact hdone E _ (by omega) (hJ E N W2 _ (by omega) hj (kB.mono fun _ h _ => h.2)) (kB.heap (by omega) hd)
theorem wp_rangeJN {P : Program} {g : Operand} {ps : Array Tmp} {assign body : Code} {Q : Exit → Act → World → Prop} {a : Act} {w : World}
    {l0 : Nat} {r0 : Loop} (hl0 : w.heap[l0]? = some (.loop r0)) {gf : Nat} {lb : Array Value} (hg : a.eval g = .func (.func gf) #[] lb) (eg : ∀ args w, (callFunc gf args).run P w = .ok (.enter gf args) w)
    {N : Nat} {It : Nat → World → Array Value → Prop} {K : Nat → Prop} {R : Nat → World → Prop}
    (hseq : ∀ W, Kw (fun _ => True) w W → W.heap.size = w.heap.size + 1 → GivesJ P gf lb N It K R W)
    (hKs : ∀ b, K b → b < w.heap.size) (hps : ∀ k A args, It k A args → args.size = ps.size)
    (J : Nat → Nat → World → Prop)
    (hR : ∀ E k A, w.heap.size + 1 ≤ E → J E k A → R k A)
    (hJ : ∀ E k A B, w.heap.size + 1 ≤ E → J E k A → Kw (fun b => b ≠ w.heap.size) A B → J E k B)
    (hItp : ∀ k A B args, It k A args → Kw (fun b => b ≠ w.heap.size) A B → It k B args)
    (h0 : ∀ E, J E 0 w)
    (hround : ∀ (l E k : Nat) (args : Array Value) (A : World), w.heap.size + 1 ≤ E → E ≤ A.heap.size → k < N → J E k A → It k A args →
      assign.wpIn (Fence.wide.inRound l) 0 P (Exit.then (fun a₁ A₁ => A₁ = A ∧ ∀ A', E ≤ A'.heap.size → J E k A' → It k A' args →
        body.wpIn (Fence.wide.inRound l) 0 P (fun e _ B => e = .normal ∧ J E (k + 1) B ∧ Kw (fun b => b = w.heap.size ∨ K b ∨ (w.heap.size + 1 ≤ b ∧ b < E)) A' B) a₁ A') (fun _ _ _ => False)) { tmps := (ps.zip args).foldl (fun t (p, v) => t.setIfInBounds p v) a.tmps, defers := [] } A)
    (hdone : ∀ (E : Nat) (W : World), w.heap.size + 1 ≤ E → J E N W → Q .normal a W) :
    (Code.rangeFunc g ps assign body).wpIn (Fence.wide.inRound l0) 0 P Q a w := by
  refine wpIn_rangeFunc ?_
  intro fn hfn
  rw [show (Fence.wide.inRound l0).round = some l0 from rfl]
  obtain ⟨rec, hrec⟩ : ∃ rec : LoopState → Option Code → Loop, rec = fun st pe => { state := st, pending := pe, fn, tmps := a.tmps, params := ps, assign, body, defers := r0.defers } := ⟨_, rfl⟩
  obtain ⟨W1, hW1⟩ : ∃ W1, w.alloc (.loop (rec .ready none)) = W1 := ⟨_, rfl⟩
  have sz : W1.heap.size = w.heap.size + 1 := by rw [← hW1]; simp
  have kw1 : Kw (fun _ => True) w W1 := by rw [← hW1]; exact (Kw.refl _ w).alloc _
  have hL1 : W1.heap[w.heap.size]? = some (.loop (rec .ready none)) := by rw [← hW1]; exact World.alloc_heap_new w _
  refine ⟨w.heap.size, [], W1, { target := .fn (.func gf) lb, args := #[.func (.yield w.heap.size) #[] #[]] }, W1, gf,
    #[.func (.yield w.heap.size) #[] #[]] ++ lb, W1, ?_, ?_, ?_, ?_, fun h => (by cases h), ?_⟩
  · rw [← hW1, hrec]; exact run_enterLoop_inner hl0 _ _ _ _ _
  · simp only [resolve, hg]
    simp [go_sem]
  · intro f' _; trivial
  · simp [invoke, go_sem, eg]
  · refine (CallsIn.inRound l0 (hseq W1 kw1 sz w.heap.size (fun E k W => J E k W ∧ W.heap[w.heap.size]? = some (.loop (rec .ready none))) (fun E k A hE hj => hR E k A (by omega) hj.1) ?_ ?_ ?_)).mono ?_
    · intro E k A B hE hj hk
      exact ⟨hJ E k A B (by omega) hj.1 (hk.mono fun _ _ _ => trivial), hk.heap trivial hj.2⟩
    · rintro E k A args hE hEA hkN ⟨hj, hl⟩ hit
      have hy := run_yield (P := P) (args := args) hl (by rw [hrec]; exact hps k A args hit)
      rw [hrec] at hy
      refine ⟨fn, _, assign, body, hy, roundIn_of_wpIn hfn (wpIn_mono (hround w.heap.size E k args A (by omega) hEA hkN hj hit) ?_)⟩
      intro e a1 A1 he
      cases e <;> simp only [Exit.then] at he ⊢
      obtain ⟨rfl, hbody⟩ := he
      refine ⟨_, run_beginRound hl (by rw [hrec]), ?_⟩
      obtain ⟨A', hA'⟩ : ∃ A', A1.putObj w.heap.size (.loop { rec .ready none with state := .busy }) = A' := ⟨_, rfl⟩
      have hA2 : A'.heap[w.heap.size]? = some (.loop { rec .ready none with state := .busy }) := by rw [← hA']; exact World.putObj_heap_same (Array.getElem?_eq_some_iff.1 hl).1
      have kA : Kw (fun b => b ≠ w.heap.size) A1 A' := by rw [← hA']; exact Kw.put _ _ _ _ (fun h => h rfl)
      rw [hA']
      refine wpIn_mono (hbody A' (Nat.le_trans hEA kA.size) (hJ E k A1 A' (by omega) hj (kA.mono fun _ h _ => h)) (hItp k A1 A' args hit kA)) ?_
      rintro e a3 B ⟨rfl, hj3, hk3⟩
      have hl3 := hk3.heap (.inl rfl) hA2
      have hend := run_endRound (P := P) none hl3
      have kB : Kw (fun b => b ≠ w.heap.size) B (B.putObj w.heap.size (.loop (rec .ready none))) := Kw.put _ _ _ _ (fun h => h rfl)
      have hE1 : ({ ({ rec .ready none with state := .busy } : Loop) with state := if (none : Option Code).isNone then .ready else .done, pending := none } : Loop) = rec .ready none := by rw [hrec]; rfl
      rw [hE1] at hend
      refine ⟨_, _, hend, rfl, ⟨hJ E (k + 1) B _ (by omega) hj3 (kB.mono fun _ h _ => h), World.putObj_heap_same (Array.getElem?_eq_some_iff.1 hl3).1⟩, ?_⟩
      refine (kA.mono (fun b hb hlt => ?_)).trans ((hk3.mono fun b hb hlt => ?_).trans (kB.mono fun b hb hlt => ?_))
      · rcases hb with h | h
        · have := hKs b h; omega
        · omega
      · rcases hb with h | h
        · exact .inr (.inl h)
        · exact .inr (.inr (by omega))
      · rcases hb with h | h
        · have := hKs b h; omega
        · omega
    · intro E hE
      exact ⟨hJ E 0 w W1 (by omega) (h0 E) (kw1.mono fun _ _ _ => trivial), hL1⟩
    · rintro e W2 ⟨⟨v, rfl⟩, E, hE, hj, hl⟩
      have kB : Kw (fun b => b ≠ w.heap.size) W2 (W2.putObj w.heap.size (.loop { rec .ready none with state := .exhausted })) := Kw.put _ _ _ _ (fun h => h rfl)
      have hend := run_endLoop (P := P) hl (by rw [hrec]; simp)
      refine ⟨none, W2.putObj w.heap.size (.loop { rec .ready none with state := .exhausted }), by rw [hend, hrec], ?_⟩
      have := hdone E _ (by omega) (hJ E N W2 _ (by omega) hj (kB.mono fun _ h _ => h))
      exact this
end
end Go.Proofs.Ytfhjpgbnojdlkaa
