/- append onto a row of one's own whose elements take several cells: 'SrcS', 'ApdS'. Nothing of the program is imported. -/
import Derived.Test.YtcjomeghcihecaaDoorPApp
namespace Go.Proofs.YtcjomeghcihecaaDoor
open Go.RowKit
set_option linter.unusedSimpArgs false
set_option linter.unusedVariables false
/-- The slice value x holds m elements of sz cells each: news. -/
def SrcS (sz : Nat) (w : World) (x : Value) (m : Nat) (news : List Value) : Prop :=
  news.length = m * sz ∧ ((x = .slice none 0 0 ∧ m = 0) ∨ ∃ ad c, x = .slice (some ad) m c ∧ ∀ j u, news[j]? = some u → w.cell? (ad.add j) = some u)
/-- What an append leaves. -/
structure ApdS (sz : Nat) (W w' : World) (base : Nat) (e : TypeId) (v v' : Value) (n : Nat) (xs : List Value) : Prop where
  own : w'.ownsRow base e sz v' n xs
  grown : W.grownBy w' v.ownBlock
  at_ : v'.ownBlock = v.ownBlock ∨ v'.ownBlock = some W.heap.size
section
variable {P : Program} {w : World} {base : Nat} {t ty e : TypeId} {z : Value} {sz bytes : Nat} {v x : Value} {n m : Nat} {xs news : List Value}
theorem run_appS (ht : P.underlying t = some (.slice e)) (hinfo : (P.info? e).map (fun i => (i.zero, i.size, i.bytes)) = some (some z, sz, bytes)) (hz1 : z.cells.size = sz) (hsz0 : 0 < sz)
    (hown : w.ownsRow base e sz v n xs) (hs : SrcS sz w x m news) (h1 : ∀ u ∈ news, u.oneCell' = true) (h63 : n + m ≤ maxLen) (hbytes : (n + m) * bytes ≤ 140737488355328) (hbase : base ≤ w.heap.size) :
    ∃ v' w', (Builtin.append_ #[t, t] ty #[v, x]).run P w = .ok v' w' ∧ ApdS sz w w' base e v v' (n + m) (xs ++ news) := by
  obtain ⟨i, hi, hzz⟩ := Option.map_eq_some_iff.1 hinfo
  simp only [Prod.mk.injEq] at hzz
  obtain ⟨hz, hsz, hb⟩ := hzz
  obtain ⟨hl, ⟨rfl, rfl⟩ | ⟨ad, c, rfl, hc⟩⟩ := hs
  · obtain rfl := List.eq_nil_of_length_eq_zero (by simpa using hl)
    exact ⟨v, w, run_append_owned_none (P := P) (w := w) base t ty e i sz ht hi v n xs hown, by simpa using hown, World.grownBy.refl w _, .inl rfl⟩
  · obtain ⟨v', w', hrun, h2, h3, _, h5⟩ := run_append_own_at (P := P) w base t ty e i z sz bytes ht hi hz hsz hb hz1 hsz0 v n xs hown ad m c news hl hc h1 h63 hbytes hbase
    exact ⟨v', w', hrun, h2, h3, h5⟩
theorem wp_appS {o : Oper} {a : Act} {K : Act → World → Prop} {Q : Exit → Act → World → Prop} (s y : Operand) (ho : o.op = .call { callee := .builtin .append, args := #[s, y], argTypes := #[t, t] })
    (ht : P.underlying t = some (.slice e)) (hinfo : (P.info? e).map (fun i => (i.zero, i.size, i.bytes)) = some (some z, sz, bytes)) (hz1 : z.cells.size = sz) (hsz0 : 0 < sz) (hv : a.eval s = v)
    (hown : w.ownsRow base e sz v n xs) (hx : a.eval y = x) (hs : SrcS sz w x m news) (h1 : ∀ u ∈ news, u.oneCell' = true) (h63 : n + m ≤ maxLen) (hbytes : (n + m) * bytes ≤ 140737488355328) (hbase : base ≤ w.heap.size)
    (h : ∀ v' w', ApdS sz w w' base e v v' (n + m) (xs ++ news) → K (a.put o.dst v') w') : o.wp P a w K Q := by
  obtain ⟨v', w', hr, h2⟩ := run_appS (P := P) (ty := o.type) ht hinfo hz1 hsz0 hown hs h1 h63 hbytes hbase
  unfold Oper.wp
  simp [execOp, ho, resolve, invoke, builtin, hv, hx, hr, Result.andThen]
  exact h v' w' h2
theorem wpList_appS {ops : Array Oper} {rest : List Oper} {o : Oper} {a : Act} {Q : Exit → Act → World → Prop} (hgd : o.guard = none) (s y : Operand) (ho : o.op = .call { callee := .builtin .append, args := #[s, y], argTypes := #[t, t] })
    (ht : P.underlying t = some (.slice e)) (hinfo : (P.info? e).map (fun i => (i.zero, i.size, i.bytes)) = some (some z, sz, bytes)) (hz1 : z.cells.size = sz) (hsz0 : 0 < sz) (hv : a.eval s = v)
    (hown : w.ownsRow base e sz v n xs) (hx : a.eval y = x) (hs : SrcS sz w x m news) (h1 : ∀ u ∈ news, u.oneCell' = true) (h63 : n + m ≤ maxLen) (hbytes : (n + m) * bytes ≤ 140737488355328) (hbase : base ≤ w.heap.size)
    (h : ∀ v' w', ApdS sz w w' base e v v' (n + m) (xs ++ news) → wpList P ops Q rest (a.put o.dst v') w') : wpList P ops Q (o :: rest) a w :=
  wpList_plain hgd fun _ hK => wp_appS s y ho ht hinfo hz1 hsz0 hv hown hx hs h1 h63 hbytes hbase fun v' w' h2 => hK _ _ (h v' w' h2)
theorem step_appS {ops : Array Oper} {o : Oper} {a : Act} {K : Act → World → Prop} {Q : Exit → Act → World → Prop} {E : Prop} (hgd : o.guard = none) (s y : Operand) (ho : o.op = .call { callee := .builtin .append, args := #[s, y], argTypes := #[t, t] })
    (ht : P.underlying t = some (.slice e)) (hinfo : (P.info? e).map (fun i => (i.zero, i.size, i.bytes)) = some (some z, sz, bytes)) (hz1 : z.cells.size = sz) (hsz0 : 0 < sz) (hv : a.eval s = v)
    (hown : w.ownsRow base e sz v n xs) (hx : a.eval y = x) (hs : SrcS sz w x m news) (h1 : ∀ u ∈ news, u.oneCell' = true) (h63 : n + m ≤ maxLen) (hbytes : (n + m) * bytes ≤ 140737488355328) (hbase : base ≤ w.heap.size)
    (h : ∀ v' w', ApdS sz w w' base e v v' (n + m) (xs ++ news) → K (a.put o.dst v') w') : if Region.wanted o (yielded ops a.tmps) = true then Oper.wp P o a w K Q else E := by
  rw [if_pos (by simp [Region.wanted, hgd])]
  exact wp_appS s y ho ht hinfo hz1 hsz0 hv hown hx hs h1 h63 hbytes hbase h
end
theorem srcS_block {sz m : Nat} {w : World} {b : Nat} {cs : Array Value} {T : TypeId} {fr : Nat × Nat} {c : Nat} (hb : w.heap[b]? = some (.cells cs T fr)) (hm : cs.size = m * sz) : SrcS sz w (.slice (some ⟨b, 0, none⟩) m c) m cs.toList :=
  ⟨by simpa using hm, .inr ⟨_, c, rfl, fun j u hu => by
    have hadd : (⟨b, 0, none⟩ : Addr).add j = ⟨b, j, none⟩ := by unfold Addr.add; split <;> simp_all
    rw [hadd, cell_of_row w b j cs T fr hb]
    simpa using hu⟩⟩
theorem srcS_top {sz m : Nat} {w : World} {b : Nat} {cs : Array Value} {T : TypeId} {c : Nat} (hb : b = w.heap.size) (hm : cs.size = m * sz) : SrcS sz (w.alloc (.cells cs T)) (.slice (some ⟨b, 0, none⟩) m c) m cs.toList := by
  subst hb
  exact srcS_block (heap_alloc_new w _) hm
theorem SrcS.keep {sz : Nat} {w w' : World} {x : Value} {m : Nat} {news : List Value} (h : SrcS sz w x m news) (hb : Below w.heap.size w w') : SrcS sz w' x m news := by
  obtain ⟨hl, h | ⟨ad, c, rfl, hc⟩⟩ := h
  · exact ⟨hl, .inl h⟩
  · exact ⟨hl, .inr ⟨ad, c, rfl, fun j u hu => below_cell hb (hc j u hu)⟩⟩
theorem ApdS.below {sz : Nat} {W w' : World} {base B : Nat} {e : TypeId} {v v' : Value} {n : Nat} {xs : List Value} (h : ApdS sz W w' base e v v' n xs) (hB : B ≤ W.heap.size) (hv : ∀ g, v.ownBlock = some g → B ≤ g) : Below B W w' :=
  (Below.refl B W).grown h.grown hB (fun q hq => hv q (by first | exact hq | exact hq.symm))
/-- Pairs of a number and a value, cell by cell. -/
def flat : List (Int × Value) → List Value
  | [] => []
  | q :: r => .int .i64 q.1 :: q.2 :: flat r
theorem flat_len : ∀ (us : List (Int × Value)), (flat us).length = us.length * 2
  | [] => rfl
  | q :: r => by simp [flat, flat_len r]; omega
theorem flat_append : ∀ (a b : List (Int × Value)), flat (a ++ b) = flat a ++ flat b
  | [], b => rfl
  | q :: r, b => by simp [flat, flat_append r b]
theorem flat_at : ∀ (us : List (Int × Value)) (i : Nat) (h : i < us.length), (flat us)[i * 2]? = some (.int .i64 us[i].1) ∧ (flat us)[i * 2 + 1]? = some us[i].2
  | q :: r, 0, _ => by simp [flat]
  | q :: r, i + 1, h => by
    have ih := flat_at r i (by simpa using h)
    rw [show (i + 1) * 2 = i * 2 + 2 by omega, show i * 2 + 2 + 1 = i * 2 + 1 + 2 by omega]
    simpa [flat] using ih
end Go.Proofs.YtcjomeghcihecaaDoor
