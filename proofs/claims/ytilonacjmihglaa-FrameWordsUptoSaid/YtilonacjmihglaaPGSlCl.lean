/- append onto a row of one's own within a round of a loop over an iterator; boxes (as XKa, without layer 10). -/
import Derived.Test.YtilonacjmihglaaPOwn
import Derived.Test.YtilonacjmihglaaPApp
import Derived.Test.YtilonacjmihglaaPKw
import Derived.RangeFuncNested
import Derived.Shelf.Abstract
import Derived.Laws.CopyOwn
namespace Go.Proofs.Ytilonacjmihglaa
section
open Go Go.ChangeShapes Go.WideShapes Go.RowKit
set_option linter.unusedVariables false
set_option linter.unusedSimpArgs false
section
variable {P : Program} {w : World} {base : Nat} {t ty e : TypeId} {z : Value} {bytes : Nat} {v x : Value} {n m l : Nat} {xs news : List Value}
theorem wpListIn_app {ops : Array Oper} {rest : List Oper} {o : Oper} {a : Act} {Q : Exit → Act → World → Prop} (hgd : o.guard = none) (s y : Operand) (ho : o.op = .call { callee := .builtin .append, args := #[s, y], argTypes := #[t, t] })
    (ht : P.underlying t = some (.slice e)) (hinfo : (P.info? e).map (fun i => (i.zero, i.size, i.bytes)) = some (some z, 1, bytes)) (hz1 : z.cells.size = 1) (hv : a.eval s = v)
    (hown : w.ownsRow base e 1 v n xs) (hx : a.eval y = x) (hs : Src w x m news) (h1 : ∀ u ∈ news, u.oneCell' = true) (h63 : n + m ≤ maxLen) (hbytes : (n + m) * bytes ≤ 140737488355328) (hbase : base ≤ w.heap.size)
    (h : ∀ v' w', Apd w w' base e v v' (n + m) (xs ++ news) → wpListIn (Fence.wide.inRound l) 0 P ops Q rest (a.put o.dst v') w') : wpListIn (Fence.wide.inRound l) 0 P ops Q (o :: rest) a w :=
  wpListIn_plain hgd fun K hK => by
    obtain ⟨v', w', hr, h2⟩ := run_app (P := P) (ty := o.type) ht hinfo hz1 hown hs h1 h63 hbytes hbase
    refine ⟨fun _ _ => trivial, ?_⟩
    rw [Fence.inRound_round, Oper.semAt_some l a.eval o (fun c hc => by rw [ho] at hc; cases hc)]
    simp [execOp, ho, resolve, invoke, builtin, hv, hx, hr, Result.andThen]
    exact hK _ _ (h v' w' h2)
end
theorem OW.block {k : IntKind} {T : TypeId} {A B : World} {S : Nat} {v : Value} {ws : List Int} (h : OW k T A S v ws) (hb : ∀ g, v.ownBlock = some g → B.heap[g]? = A.heap[g]?) : OW k T B S v ws := by
  obtain ⟨h1, h2⟩ := h
  refine ⟨h1, ?_⟩
  rcases h2 with h2 | ⟨g, cap, cur, rfl, hg, r, h3⟩
  · exact .inl h2
  · exact .inr ⟨g, cap, cur, rfl, hg, (hb g rfl).trans r, h3⟩
theorem OW.lt {k : IntKind} {T : TypeId} {A : World} {S : Nat} {v : Value} {ws : List Int} (h : OW k T A S v ws) {g : Nat} (hg : v.ownBlock = some g) : S ≤ g ∧ g < A.heap.size := by
  obtain ⟨h1, h2⟩ := h
  rcases h2 with ⟨rfl, _⟩ | ⟨b, cap, cur, rfl, hb, r, h3⟩
  · cases hg
  · simp only [Value.ownBlock, Option.some.injEq] at hg
    subst hg
    exact ⟨hb, (Array.getElem?_eq_some_iff.1 r).1⟩
theorem OW.kw {k : IntKind} {T : TypeId} {A B : World} {S : Nat} {v : Value} {ws : List Int} {K : Nat → Prop} (h : OW k T A S v ws) (hk : Kw K A B) (hK : ∀ g, v.ownBlock = some g → K g) : OW k T B S v ws :=
  h.block fun g hg => hk.block g (hK g hg) (h.lt hg).2
theorem Boxed.kw {A B : World} {K : Nat → Prop} {b : Nat} {t : TypeId} {v : Value} (h : Boxed A b t v) (hk : Kw K A B) (hb : K b) : Boxed B b t v := hk.heap hb h
theorem ow_form {w : World} {T : TypeId} {k : IntKind} {B : Nat} {v : Value} {ws : List Int} (h : OW k T w B v ws) : ∃ p c, v = .slice p ws.length c := by
  rcases h.mine with ⟨rfl, rfl⟩ | ⟨g, c, cur, rfl, _⟩
  · exact ⟨none, 0, rfl⟩
  · exact ⟨_, c, rfl⟩
/-- A row of one's own stays where a function is left. -/
theorem OW.leave {W W' : World} {T : TypeId} {k : IntKind} {B S : Nat} {v : Value} {ws : List Int} (h : OW k T W B v ws) (hk : Kw (fun b => b < S ∨ W.heap[b]? ≠ some (.deferred (some []))) W W') : OW k T W' B v ws := by
  obtain ⟨h1, h2⟩ := h
  refine ⟨h1, ?_⟩
  rcases h2 with h2 | ⟨g, cap, cur, rfl, hg, r, h3⟩
  · exact .inl h2
  · exact .inr ⟨g, cap, cur, rfl, hg, (hk.block g (.inr (by rw [r]; simp)) (Array.getElem?_eq_some_iff.1 r).1).trans r, h3⟩
/-- Behind an append of one number. -/
theorem own_apd {W w' : World} {T : TypeId} {k : IntKind} {B : Nat} {v v' : Value} {ws : List Int} {x : Int} (h : Apd W w' B T v v' (ws.length + 1) (ws.map (Value.int k) ++ [Value.int k x])) : OW k T w' B v' (ws ++ [x]) := OW.snoc h.own
theorem src_one {w : World} {T : TypeId} {k : IntKind} {x : Int} {b : Nat} (hb : b = w.heap.size) : Src (w.alloc (.cells #[.int k x] T)) (.slice (some ⟨b, 0, none⟩) 1 1) 1 [.int k x] := src_top (cs := #[.int k x]) hb
end
end Go.Proofs.Ytilonacjmihglaa
