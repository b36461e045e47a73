/- append onto a row of one's own within a round of a loop over an iterator; boxes. -/
import Derived.Test.YtnniohimbmnapaaDoorFEach
import Derived.RangeFuncNested
import Derived.Shelf.Abstract
import Derived.Laws.CopyOwn
namespace Go.Proofs.YtnniohimbmnapaaDoor
open Go Go.ChangeShapes Go.WideShapes Go.RowKit
set_option linter.unusedVariables false
set_option linter.unusedSimpArgs false
section
variable {P : Program} {w : World} {base : Nat} {t ty e : TypeId} {z : Value} {bytes : Nat} {v x : Value} {n m l : Nat} {xs news : List Value}
theorem wpListIn_app {ops : Array Oper} {rest : List Oper} {o : Oper} {a : Act} {Q : Exit → Act → World → Prop} (hgd : o.guard = none) (s y : Operand) (ho : o.op = .call { callee := .builtin .append, args := #[s, y], argTypes := #[t, t] })
    (ht : P.underlying t = some (.slice e)) (hinfo : (P.info? e).map (fun i => (i.zero, i.size, i.bytes)) = some (some z, 1, bytes)) (hz1 : z.cells.size = 1) (hv : a.eval s = v)
    (hown : w.ownsRow base e 1 v n xs) (hx : a.eval y = x) (hs : Src w x m news) (h1 : ∀ u ∈ news, u.oneCell' = true) (h63 : n + m ≤ maxLen) (hbytes : (n + m) * bytes ≤ 140737488355328) (hbase : base ≤ w.heap.size)
    (h : ∀ v' w', Apd w w' base e v v' (n + m) (xs ++ news) → wpListIn (Fence.wide.inRound l) 0 P ops Q rest (a.put o.dst v') w') : wpListIn (Fence.wide.inRound l) 0 P ops Q (o :: rest) a w :=
  wpListIn_plain hgd fun K hK => by
    obtain ⟨v', w', hr, h2⟩ := run_app (P := P) (ty := o.type) ht hinfo hz1 hown hs h1 h63 hbytes hbase
    refine ⟨fun _ _ => trivial, ?_⟩
    rw [Fence.inRound_round, Oper.semAt_some l a.eval o (fun c hc => by rw [ho] at hc; cases hc)]
    simp [execOp, ho, resolve, invoke, builtin, hv, hx, hr, Result.andThen]
    exact hK _ _ (h v' w' h2)
theorem wpIn_app {o : Oper} {a : Act} {K : Act → World → Prop} {Q : Exit → Act → World → Prop} (s y : Operand) (ho : o.op = .call { callee := .builtin .append, args := #[s, y], argTypes := #[t, t] })
    (ht : P.underlying t = some (.slice e)) (hinfo : (P.info? e).map (fun i => (i.zero, i.size, i.bytes)) = some (some z, 1, bytes)) (hz1 : z.cells.size = 1) (hv : a.eval s = v)
    (hown : w.ownsRow base e 1 v n xs) (hx : a.eval y = x) (hs : Src w x m news) (h1 : ∀ u ∈ news, u.oneCell' = true) (h63 : n + m ≤ maxLen) (hbytes : (n + m) * bytes ≤ 140737488355328) (hbase : base ≤ w.heap.size)
    (h : ∀ v' w', Apd w w' base e v v' (n + m) (xs ++ news) → K (a.put o.dst v') w') : o.wpIn (Fence.wide.inRound l) 0 P a w K Q := by
  obtain ⟨v', w', hr, h2⟩ := run_app (P := P) (ty := o.type) ht hinfo hz1 hown hs h1 h63 hbytes hbase
  refine ⟨fun _ _ => trivial, ?_⟩
  rw [Fence.inRound_round, Oper.semAt_some l a.eval o (fun c hc => by rw [ho] at hc; cases hc)]
  simp [execOp, ho, resolve, invoke, builtin, hv, hx, hr, Result.andThen]
  exact h v' w' h2
/-- copy from row to row, whole. -/
theorem wpListIn_copyRow {ops : Array Oper} {rest : List Oper} {o : Oper} {a : Act} {Q : Exit → Act → World → Prop} {T E : TypeId} {g g2 k : Nat} {cur cs : List Value} (hgd : o.guard = none) (d y : Operand) (ho : o.op = .call { callee := .builtin .copy, args := #[d, y], argTypes := #[T, T] })
    (hu : P.underlying T = some (.slice E)) (hsz : (P.info? E).map (·.size) = some 1) (hd : a.eval d = .slice (some ⟨g, 0, none⟩) k k) (hy : a.eval y = .slice (some ⟨g2, 0, none⟩) k k)
    (hg : w.heap[g]? = some (.cells cur.toArray E (0, 0))) (hg2 : w.heap[g2]? = some (.cells cs.toArray E (0, 0))) (hl : cur.length = k) (hl2 : cs.length = k) (h1 : ∀ u ∈ cs, u.oneCell' = true)
    (h : ∀ w', Kw (fun b => b ≠ g) w w' → w'.heap.size = w.heap.size → w'.heap[g]? = some (.cells cs.toArray E (0, 0)) → wpListIn (Fence.wide.inRound l) 0 P ops Q rest (a.put o.dst (goInt k)) w') : wpListIn (Fence.wide.inRound l) 0 P ops Q (o :: rest) a w :=
  wpListIn_plain hgd fun K hK => by
    have hsrc : ∀ j v, cs[j]? = some v → w.cell? ((⟨g2, 0, none⟩ : Addr).add j) = some v := fun j v hv => by
      rw [addO, Nat.zero_add, cell_of_row w g2 j cs.toArray E (0, 0) hg2]
      simpa using hv
    refine ⟨fun _ _ => trivial, ?_⟩
    rw [Fence.inRound_round, Oper.semAt_some l a.eval o (fun c hc => by rw [ho] at hc; cases hc)]
    by_cases h0 : k = 0
    · subst h0
      obtain rfl := List.eq_nil_of_length_eq_zero hl
      obtain rfl := List.eq_nil_of_length_eq_zero hl2
      have hrun := run_copy_none (P := P) w T T o.type E (some ⟨g, 0, none⟩) (some ⟨g2, 0, none⟩) 0 0 0 0 hu hsz (by simp)
      simp [execOp, ho, resolve, invoke, builtin, hd, hy, hrun, Result.andThen]
      exact hK _ _ (h w (Kw.refl _ _) rfl hg)
    · have hrun := run_copy_row (P := P) w T T o.type E g 0 k k ⟨g2, 0, none⟩ k k cur.toArray E cs hu hsz hg (by simp [hl2]) hsrc (by simp [hl, hl2]) h1
      have he : (cur.toArray.toList.take 0 ++ cs ++ cur.toArray.toList.drop (0 + cs.length)) = cs := by simp [hl, hl2]
      rw [he] at hrun
      simp [execOp, ho, resolve, invoke, builtin, hd, hy, hrun, Result.andThen]
      have hq := hK _ _ (h (w.setRow g cs.toArray) ⟨rfl, rfl, rfl, by simp [World.setRow], fun b hb _ => setRow_other w g b cs.toArray hb⟩ (by simp [World.setRow]) (setRow_heap w g _ _ E _ hg))
      rw [← hl2] at hq
      exact hq
end
theorem Boxed.kw {A B : World} {K : Nat → Prop} {b : Nat} {t : TypeId} {v : Value} (h : Boxed A b t v) (hk : Kw K A B) (hb : K b) : Boxed B b t v := hk.heap hb h
theorem own_form {w : World} {T : TypeId} {k : IntKind} {B : Nat} {v : Value} {ws : List Int} (h : OW k T w B v ws) : ∃ p c, v = .slice p ws.length c := by
  rcases h.mine with ⟨rfl, rfl⟩ | ⟨g, c, cur, rfl, _⟩
  · exact ⟨none, 0, rfl⟩
  · exact ⟨_, c, rfl⟩
/-- A row of one's own stays where a function is left. -/
theorem OW.leave {W W' : World} {T : TypeId} {k : IntKind} {B S : Nat} {v : Value} {ws : List Int} (h : OW k T W B v ws) (hk : Kw (fun b => b < S ∨ W.heap[b]? ≠ some (.deferred (some []))) W W') : OW k T W' B v ws := by
  obtain ⟨h1, h2⟩ := h
  refine ⟨h1, ?_⟩
  rcases h2 with h2 | ⟨g, cap, cur, rfl, hg, r, h3⟩
  · exact .inl h2
  · exact .inr ⟨g, cap, cur, rfl, hg, (hk.block g (.inr (by rw [r]; simp)) (Array.getElem?_eq_some_iff.1 r).1).trans r, h3⟩
/-- Behind an append of one number. -/
theorem own_apd {W w' : World} {T : TypeId} {k : IntKind} {B : Nat} {v v' : Value} {ws : List Int} {x : Int} (h : Apd W w' B T v v' (ws.length + 1) (ws.map (Value.int k) ++ [Value.int k x])) : OW k T w' B v' (ws ++ [x]) := OW.snoc h.own
theorem src_one {w : World} {T : TypeId} {k : IntKind} {x : Int} {b : Nat} (hb : b = w.heap.size) : Src (w.alloc (.cells #[.int k x] T)) (.slice (some ⟨b, 0, none⟩) 1 1) 1 [.int k x] := src_top (cs := #[.int k x]) hb
theorem waysD_le (F : FuncD) (x : Nat) : (waysD F x).length ≤ 3 := by
  rw [ways_len]
  have h1 : (goeL F x).length ≤ 2 := goesD_len (F.ins.getD x insZ) x
  have h2 : (hanL F x).length ≤ 1 := by unfold hanL; split <;> simp
  omega
theorem enter_closure (args : Array Value) (w : World) : (callFunc 58 args).run Tryd.prog w = .ok (.enter 58 args) w := enters_of Tryd.func58 (by kernel_rfl) rfl args w
end Go.Proofs.YtnniohimbmnapaaDoor
