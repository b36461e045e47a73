/- append onto a row of one's own whose elements take several cells: 'SrcS', 'ApdS'. Nothing of the program is imported. Layer 14: ref14.match. Layer 14: the pairs that Alike keeps, as plain lists; match, whatever the words. Layer 14: ref14.Alike. -/
import Derived.Test.YtfhjpgbnojdlkaaPApp
import Derived.Test.YtfhjpgbnojdlkaaPGSlRc
import Derived.Test.YtfhjpgbnojdlkaaPLawSo
namespace Go.Proofs.Ytfhjpgbnojdlkaa
section
open Go.RowKit
set_option linter.unusedSimpArgs false
set_option linter.unusedVariables false
/-- The slice value x holds m elements of sz cells each: news. -/
def SrcS (sz : Nat) (w : World) (x : Value) (m : Nat) (news : List Value) : Prop :=
  news.length = m * sz ∧ ((x = .slice none 0 0 ∧ m = 0) ∨ ∃ ad c, x = .slice (some ad) m c ∧ ∀ j u, news[j]? = some u → w.cell? (ad.add j) = some u)
/-- What an append leaves. -/
structure ApdS (sz : Nat) (W w' : World) (base : Nat) (e : TypeId) (v v' : Value) (n : Nat) (xs : List Value) : Prop where
  own : w'.ownsRow base e sz v' n xs
  grown : W.grownBy w' v.ownBlock
  at_ : v'.ownBlock = v.ownBlock ∨ v'.ownBlock = some W.heap.size
section
variable {P : Program} {w : World} {base : Nat} {t ty e : TypeId} {z : Value} {sz bytes : Nat} {v x : Value} {n m : Nat} {xs news : List Value}
theorem run_appS (ht : P.underlying t = some (.slice e)) (hinfo : (P.info? e).map (fun i => (i.zero, i.size, i.bytes)) = some (some z, sz, bytes)) (hz1 : z.cells.size = sz) (hsz0 : 0 < sz)
    (hown : w.ownsRow base e sz v n xs) (hs : SrcS sz w x m news) (h1 : ∀ u ∈ news, u.oneCell' = true) (h63 : n + m ≤ maxLen) (hbytes : (n + m) * bytes ≤ 140737488355328) (hbase : base ≤ w.heap.size) :
    ∃ v' w', (Builtin.append_ #[t, t] ty #[v, x]).run P w = .ok v' w' ∧ ApdS sz w w' base e v v' (n + m) (xs ++ news) := by
  obtain ⟨i, hi, hzz⟩ := Option.map_eq_some_iff.1 hinfo
  simp only [Prod.mk.injEq] at hzz
  obtain ⟨hz, hsz, hb⟩ := hzz
  obtain ⟨hl, ⟨rfl, rfl⟩ | ⟨ad, c, rfl, hc⟩⟩ := hs
  · obtain rfl := List.eq_nil_of_length_eq_zero (by simpa using hl)
    exact ⟨v, w, run_append_owned_none (P := P) (w := w) base t ty e i sz ht hi v n xs hown, by simpa using hown, World.grownBy.refl w _, .inl rfl⟩
  · obtain ⟨v', w', hrun, h2, h3, _, h5⟩ := run_append_own_at (P := P) w base t ty e i z sz bytes ht hi hz hsz hb hz1 hsz0 v n xs hown ad m c news hl hc h1 h63 hbytes hbase
    exact ⟨v', w', hrun, h2, h3, h5⟩
theorem wp_appS {o : Oper} {a : Act} {K : Act → World → Prop} {Q : Exit → Act → World → Prop} (s y : Operand) (ho : o.op = .call { callee := .builtin .append, args := #[s, y], argTypes := #[t, t] })
    (ht : P.underlying t = some (.slice e)) (hinfo : (P.info? e).map (fun i => (i.zero, i.size, i.bytes)) = some (some z, sz, bytes)) (hz1 : z.cells.size = sz) (hsz0 : 0 < sz) (hv : a.eval s = v)
    (hown : w.ownsRow base e sz v n xs) (hx : a.eval y = x) (hs : SrcS sz w x m news) (h1 : ∀ u ∈ news, u.oneCell' = true) (h63 : n + m ≤ maxLen) (hbytes : (n + m) * bytes ≤ 140737488355328) (hbase : base ≤ w.heap.size)
    (h : ∀ v' w', ApdS sz w w' base e v v' (n + m) (xs ++ news) → K (a.put o.dst v') w') : o.wp P a w K Q := by
  obtain ⟨v', w', hr, h2⟩ := run_appS (P := P) (ty := o.type) ht hinfo hz1 hsz0 hown hs h1 h63 hbytes hbase
  unfold Oper.wp
  simp [execOp, ho, resolve, invoke, builtin, hv, hx, hr, Result.andThen]
  exact h v' w' h2
theorem wpList_appS {ops : Array Oper} {rest : List Oper} {o : Oper} {a : Act} {Q : Exit → Act → World → Prop} (hgd : o.guard = none) (s y : Operand) (ho : o.op = .call { callee := .builtin .append, args := #[s, y], argTypes := #[t, t] })
    (ht : P.underlying t = some (.slice e)) (hinfo : (P.info? e).map (fun i => (i.zero, i.size, i.bytes)) = some (some z, sz, bytes)) (hz1 : z.cells.size = sz) (hsz0 : 0 < sz) (hv : a.eval s = v)
    (hown : w.ownsRow base e sz v n xs) (hx : a.eval y = x) (hs : SrcS sz w x m news) (h1 : ∀ u ∈ news, u.oneCell' = true) (h63 : n + m ≤ maxLen) (hbytes : (n + m) * bytes ≤ 140737488355328) (hbase : base ≤ w.heap.size)
    (h : ∀ v' w', ApdS sz w w' base e v v' (n + m) (xs ++ news) → wpList P ops Q rest (a.put o.dst v') w') : wpList P ops Q (o :: rest) a w :=
  wpList_plain hgd fun _ hK => wp_appS s y ho ht hinfo hz1 hsz0 hv hown hx hs h1 h63 hbytes hbase fun v' w' h2 => hK _ _ (h v' w' h2)
theorem step_appS {ops : Array Oper} {o : Oper} {a : Act} {K : Act → World → Prop} {Q : Exit → Act → World → Prop} {E : Prop} (hgd : o.guard = none) (s y : Operand) (ho : o.op = .call { callee := .builtin .append, args := #[s, y], argTypes := #[t, t] })
    (ht : P.underlying t = some (.slice e)) (hinfo : (P.info? e).map (fun i => (i.zero, i.size, i.bytes)) = some (some z, sz, bytes)) (hz1 : z.cells.size = sz) (hsz0 : 0 < sz) (hv : a.eval s = v)
    (hown : w.ownsRow base e sz v n xs) (hx : a.eval y = x) (hs : SrcS sz w x m news) (h1 : ∀ u ∈ news, u.oneCell' = true) (h63 : n + m ≤ maxLen) (hbytes : (n + m) * bytes ≤ 140737488355328) (hbase : base ≤ w.heap.size)
    (h : ∀ v' w', ApdS sz w w' base e v v' (n + m) (xs ++ news) → K (a.put o.dst v') w') : if Region.wanted o (yielded ops a.tmps) = true then Oper.wp P o a w K Q else E := by
  rw [if_pos (by simp [Region.wanted, hgd])]
  exact wp_appS s y ho ht hinfo hz1 hsz0 hv hown hx hs h1 h63 hbytes hbase h
end
theorem srcS_block {sz m : Nat} {w : World} {b : Nat} {cs : Array Value} {T : TypeId} {fr : Nat × Nat} {c : Nat} (hb : w.heap[b]? = some (.cells cs T fr)) (hm : cs.size = m * sz) : SrcS sz w (.slice (some ⟨b, 0, none⟩) m c) m cs.toList :=
  ⟨by simpa using hm, .inr ⟨_, c, rfl, fun j u hu => by
    have hadd : (⟨b, 0, none⟩ : Addr).add j = ⟨b, j, none⟩ := by unfold Addr.add; split <;> simp_all
    rw [hadd, cell_of_row w b j cs T fr hb]
    simpa using hu⟩⟩
theorem srcS_top {sz m : Nat} {w : World} {b : Nat} {cs : Array Value} {T : TypeId} {c : Nat} (hb : b = w.heap.size) (hm : cs.size = m * sz) : SrcS sz (w.alloc (.cells cs T)) (.slice (some ⟨b, 0, none⟩) m c) m cs.toList := by
  subst hb
  exact srcS_block (heap_alloc_new w _) hm
theorem SrcS.keep {sz : Nat} {w w' : World} {x : Value} {m : Nat} {news : List Value} (h : SrcS sz w x m news) (hb : Below w.heap.size w w') : SrcS sz w' x m news := by
  obtain ⟨hl, h | ⟨ad, c, rfl, hc⟩⟩ := h
  · exact ⟨hl, .inl h⟩
  · exact ⟨hl, .inr ⟨ad, c, rfl, fun j u hu => below_cell hb (hc j u hu)⟩⟩
theorem ApdS.below {sz : Nat} {W w' : World} {base B : Nat} {e : TypeId} {v v' : Value} {n : Nat} {xs : List Value} (h : ApdS sz W w' base e v v' n xs) (hB : B ≤ W.heap.size) (hv : ∀ g, v.ownBlock = some g → B ≤ g) : Below B W w' :=
  (Below.refl B W).grown h.grown hB (fun q hq => hv q (by first | exact hq | exact hq.symm))
/-- Pairs of a number and a value, cell by cell. -/
def flat : List (Int × Value) → List Value
  | [] => []
  | q :: r => .int .i64 q.1 :: q.2 :: flat r
theorem flat_len : ∀ (us : List (Int × Value)), (flat us).length = us.length * 2
  | [] => rfl
  | q :: r => by simp [flat, flat_len r]; omega
theorem flat_append : ∀ (a b : List (Int × Value)), flat (a ++ b) = flat a ++ flat b
  | [], b => rfl
  | q :: r, b => by simp [flat, flat_append r b]
theorem flat_at : ∀ (us : List (Int × Value)) (i : Nat) (h : i < us.length), (flat us)[i * 2]? = some (.int .i64 us[i].1) ∧ (flat us)[i * 2 + 1]? = some us[i].2
  | q :: r, 0, _ => by simp [flat]
  | q :: r, i + 1, h => by
    have ih := flat_at r i (by simpa using h)
    rw [show (i + 1) * 2 = i * 2 + 2 by omega, show i * 2 + 2 + 1 = i * 2 + 1 + 2 by omega]
    simpa [flat] using ih
end
section
open Go Go.ChangeShapes Go.WideShapes Go.ChangeAt Go.RowKit
set_option linter.unusedVariables false
set_option linter.unusedSimpArgs false
theorem infoPr : (Try.prog.info? 105).map (fun i => (i.zero, i.size, i.bytes)) = some (some (.agg #[.int .i64 0, .int .i64 0]), 2, 16) := by kernel_rfl
/-- The pairs' cells. -/
def flatP (ps : List (Nat × Nat)) : List Value := ps.flatMap fun p => [.int .i64 p.1, .int .i64 p.2]
theorem flatP_snoc (ps : List (Nat × Nat)) (a b : Nat) : flatP (ps ++ [(a, b)]) = flatP ps ++ [.int .i64 a, .int .i64 b] := by simp [flatP]
theorem flatP_len (ps : List (Nat × Nat)) : (flatP ps).length = ps.length * 2 := by
  induction ps with
  | nil => rfl
  | cons p ps ih => simp only [flatP, List.flatMap_cons, List.length_append, List.length_cons, List.length_nil] at *; omega
/-- What the pairing writes. -/
structure PrS (w : World) (B0 gt gb B : Nat) (tv : Value) (ths bks : List Int) (ps : List (Nat × Nat)) : Prop where
  t0 : B0 ≤ gt
  b0 : B0 ≤ gb
  tB : gt < B
  bB : gb < B
  ne : gt ≠ gb
  th : LR .i64 3 w gt ths
  bk : LR .i64 3 w gb bks
  own : w.ownsRow B 105 2 tv ps.length (flatP ps)
theorem match_same (x : Int) (hx : 0 ≤ x ∧ x ≤ 18446744073709551615) (hk : kindOf x ≠ 0) (tv bv dv : Value) (w : World) (hd : ∃ p n c, dv = .slice p n c) :
    Calls Try.prog 62 #[.int .u64 x, .int .u64 x, tv, bv, dv] w fun e w' => e = .returned (.tuple #[dv, .bool true]) ∧ w' = w := by
  obtain ⟨p, n, c, rfl⟩ := hd
  have hwf := wfu_mk hx
  have e2 : atE x = 9 := by unfold atE; rw [if_neg hk]
  go_enter Try.func62, Try.ntmps62
  go_wp2_with (go_at_call 47; (with_reducible refine (at_ref x hwf _).mono ?_); rintro e w9 ⟨rfl, rfl⟩; rw [e2])
  all_goals go_ret2
  exact ⟨rfl, rfl⟩
theorem ownS_block {A B : World} {S sz n : Nat} {T : TypeId} {v : Value} {xs : List Value} (h : A.ownsRow S T sz v n xs) (hb : ∀ g, v.ownBlock = some g → B.heap[g]? = A.heap[g]?) : B.ownsRow S T sz v n xs := by
  obtain ⟨h1, h2⟩ := h
  refine ⟨h1, ?_⟩
  rcases h2 with h2 | ⟨g, cap, cur, rfl, hg, r, h3⟩
  · exact .inl h2
  · exact .inr ⟨g, cap, cur, rfl, hg, (hb g rfl).trans r, h3⟩
theorem ownS_ge {A : World} {S sz n : Nat} {T : TypeId} {v : Value} {xs : List Value} (h : A.ownsRow S T sz v n xs) {g : Nat} (hg : v.ownBlock = some g) : S ≤ g ∧ g < A.heap.size := by
  obtain ⟨h1, h2⟩ := h
  rcases h2 with ⟨rfl, _⟩ | ⟨b, cap, cur, rfl, hb, r, h3⟩
  · cases hg
  · simp only [Value.ownBlock, Option.some.injEq] at hg
    subst hg
    exact ⟨hb, (Array.getElem?_eq_some_iff.1 r).1⟩
theorem PrS.put {B0 gt gb B : Nat} {tv : Value} {ths bks : List Int} {ps : List (Nat × Nat)} {w : World} (hs : PrS w B0 gt gb B tv ths bks ps) (a b : Nat) :
    PrS ((w.setCell ⟨gt, a, none⟩ (.int .i64 b)).setCell ⟨gb, b, none⟩ (.int .i64 a)) B0 gt gb B tv (ths.set a b) (bks.set b a) ps ∧ Below B0 w ((w.setCell ⟨gt, a, none⟩ (.int .i64 b)).setCell ⟨gb, b, none⟩ (.int .i64 a)) := by
  have e1 : ∀ q, q ≠ gt → q ≠ gb → ((w.setCell ⟨gt, a, none⟩ (.int .i64 b)).setCell ⟨gb, b, none⟩ (.int .i64 a)).heap[q]? = w.heap[q]? := fun q h1 h2 =>
    (Below.heap_setCell _ _ _ q h2).trans (Below.heap_setCell _ _ _ q h1)
  refine ⟨⟨hs.t0, hs.b0, hs.tB, hs.bB, hs.ne, ?_, ?_, ?_⟩, rfl, rfl, rfl, ?_, fun q hq => e1 q ?_ ?_⟩
  · exact LR.block (LR.set hs.th a b) (Below.heap_setCell _ _ _ gt hs.ne)
  · exact LR.set (LR.block hs.bk (Below.heap_setCell _ _ _ gb (Ne.symm hs.ne))) b a
  · exact ownS_block hs.own fun g hg => e1 g (by have := (ownS_ge hs.own hg).1; have := hs.tB; omega) (by have := (ownS_ge hs.own hg).1; have := hs.bB; omega)
  · exact Nat.le_trans (KeepsWalks.setCell w _ _).size (KeepsWalks.setCell _ _ _).size
  · have := hs.t0; omega
  · have := hs.b0; omega
theorem match_old {B0 gt gb B : Nat} {tv : Value} {ths bks : List Int} {ps : List (Nat × Nat)} {w : World} (hs : PrS w B0 gt gb B tv ths bks ps) (x y : Int) (hx : 0 ≤ x ∧ x ≤ 18446744073709551615) (hy : 0 ≤ y ∧ y ≤ 18446744073709551615) (a b : Nat) (kx : kindOf x = 0) (ky : kindOf y = 0) (ex : x / 4 = (a : Int)) (ey : y / 4 = (b : Int))
    (ha : a < ths.length) (hb : b < bks.length) (ht : ths.getD a 0 = (b : Int)) (hk : bks.getD b 0 = (a : Int)) (b1 : 1 ≤ b) :
    Calls Try.prog 62 #[.int .u64 x, .int .u64 y, .slice (some ⟨gt, 0, none⟩) ths.length ths.length, .slice (some ⟨gb, 0, none⟩) bks.length bks.length, tv] w fun e w' => e = .returned (.tuple #[tv, .bool true]) ∧ ∃ q, w' = w.drewN q := by
  have hwx := wfu_mk hx
  have hwy := wfu_mk hy
  have x2 : atE x = 0 := by unfold atE; rw [if_pos kx]
  have y2 : atE y = 0 := by unfold atE; rw [if_pos ky]
  have x1 : atV x = (a : Int) := by unfold atV; rw [if_pos kx, ex]
  have y1 : atV y = (b : Int) := by unfold atV; rw [if_pos ky, ey]
  have hct := hs.th.cell ha
  have hcb := hs.bk.cell hb
  rw [ht] at hct
  rw [hk] at hcb
  have haz : ¬ (ths.length : Int) ≤ (a : Int) := by omega
  have hbz : ¬ (bks.length : Int) ≤ (b : Int) := by omega
  have hb0 : ¬ (b : Int) = 0 := by omega
  have hlt : (a : Int) < (ths.length : Int) := by omega
  have hlb : (b : Int) < (bks.length : Int) := by omega
  obtain ⟨p, n, c, rfl⟩ : ∃ p n c, tv = .slice p n c := by
    rcases hs.own.2 with ⟨e, _⟩ | ⟨g, c, cur, e, _⟩
    · exact ⟨_, _, _, e⟩
    · exact ⟨_, _, _, e⟩
  clear hs ht hk ex ey kx ky ha hb
  go_enter Try.func62, Try.ntmps62
  go_wp2_with first
    | (go_at_call 47; (with_reducible refine (at_ref x hwx _).mono ?_); rintro e w9 ⟨rfl, rfl⟩; rw [x1, x2])
    | (go_at_call 47; (with_reducible refine (at_ref y hwy _).mono ?_); rintro e w9 ⟨rfl, rfl⟩; rw [y1, y2])
  go_region
  go_wp2_with fail
  all_goals go_ret2
  exact ⟨rfl, 1, rfl⟩
theorem ones_two2 (a b : Int) : ∀ u ∈ [Value.int .i64 a, Value.int .i64 b], u.oneCell' = true := by simp [Value.oneCell']
theorem pr_max {n : Nat} (h : n ≤ 1048576) : n + 1 ≤ maxLen := by unfold maxLen; omega
theorem pr_bytes {n : Nat} (h : n ≤ 1048576) : (n + 1) * 16 ≤ 140737488355328 := by omega
/-- What else stays: all but the two rows and the pairs' own row. -/
def KT (gt gb : Nat) (tv tv' : Value) (w w' : World) : Prop := Kw (fun b => b ≠ gt ∧ b ≠ gb ∧ tv.ownBlock ≠ some b) w w' ∧ (tv'.ownBlock = tv.ownBlock ∨ ∃ g, tv'.ownBlock = some g ∧ w.heap.size ≤ g)
theorem KT.refl (gt gb : Nat) (tv : Value) (w : World) : KT gt gb tv tv w w := ⟨Kw.refl _ _, .inl rfl⟩
theorem KT.drew (gt gb : Nat) (tv : Value) (w : World) (q : Nat) : KT gt gb tv tv w (w.drewN q) := ⟨Kw.all (below_drewN (Below.refl _ _) q), .inl rfl⟩
set_option maxHeartbeats 1000000 in
theorem match_new {B0 gt gb B : Nat} {tv : Value} {ths bks : List Int} {ps : List (Nat × Nat)} {w : World} (hs : PrS w B0 gt gb B tv ths bks ps) (x y : Int) (hx : 0 ≤ x ∧ x ≤ 18446744073709551615) (hy : 0 ≤ y ∧ y ≤ 18446744073709551615) (a b : Nat) (kx : kindOf x = 0) (ky : kindOf y = 0) (ex : x / 4 = (a : Int)) (ey : y / 4 = (b : Int))
    (ha : a < ths.length) (hb : b < bks.length) (ht : ths.getD a 0 = 0) (hk : bks.getD b 0 = 0) (b1 : 1 ≤ b) (hBw : B ≤ w.heap.size) (hpl : ps.length ≤ 1048576) :
    Calls Try.prog 62 #[.int .u64 x, .int .u64 y, .slice (some ⟨gt, 0, none⟩) ths.length ths.length, .slice (some ⟨gb, 0, none⟩) bks.length bks.length, tv] w fun e w' => ∃ tv', e = .returned (.tuple #[tv', .bool true]) ∧ PrS w' B0 gt gb B tv' (ths.set a b) (bks.set b a) (ps ++ [(a, b)]) ∧ Below B0 w w' ∧ KT gt gb tv tv' w w' := by
  have hwx := wfu_mk hx
  have hwy := wfu_mk hy
  have x2 : atE x = 0 := by unfold atE; rw [if_pos kx]
  have y2 : atE y = 0 := by unfold atE; rw [if_pos ky]
  have x1 : atV x = (a : Int) := by unfold atV; rw [if_pos kx, ex]
  have y1 : atV y = (b : Int) := by unfold atV; rw [if_pos ky, ey]
  have hct := hs.th.cell ha
  have hcb := hs.bk.cell hb
  rw [ht] at hct
  rw [hk] at hcb
  have hzt := hs.th.frozen a
  have hzb := hs.bk.frozen b
  have haz : ¬ (ths.length : Int) ≤ (a : Int) := by omega
  have hbz : ¬ (bks.length : Int) ≤ (b : Int) := by omega
  have hb0 : ¬ (b : Int) = 0 := by omega
  have hlt : (a : Int) < (ths.length : Int) := by omega
  have hlb : (b : Int) < (bks.length : Int) := by omega
  obtain ⟨p, n, c, rfl⟩ : ∃ p n c, tv = .slice p n c := by
    rcases hs.own.2 with ⟨e, _⟩ | ⟨g, c, cur, e, _⟩
    · exact ⟨_, _, _, e⟩
    · exact ⟨_, _, _, e⟩
  have HS := Lib.hid hs
  have hs' := hs
  have hne := hs.ne
  clear hs ht hk ex ey kx ky
  have HP := Lib.hid (hs'.put a b)
  clear hs'
  have hcb2 : (w.setCell ⟨gt, a, none⟩ (.int .i64 b)).cell? ⟨gb, b, none⟩ = some (.int .i64 0) := (World.cell?_setCell_other _ _ _ _ (by intro e; injection e with e1 e2; exact hne e1)).trans hcb
  have HBW := Lib.hid hBw
  have HPL := Lib.hid hpl
  clear hBw hpl
  go_enter Try.func62, Try.ntmps62
  go_wp2_with first
    | (go_at_call 47; (with_reducible refine (at_ref x hwx _).mono ?_); rintro e w9 ⟨rfl, rfl⟩; rw [x1, x2])
    | (go_at_call 47; (with_reducible refine (at_ref y hwy _).mono ?_); rintro e w9 ⟨rfl, rfl⟩; rw [y1, y2])
    | (with_reducible refine wpList_appS (t := 101) (e := 105) (z := .agg #[.int .i64 0, .int .i64 0]) (sz := 2) (bytes := 16) (base := B) (n := ps.length) (m := 1) (xs := flatP ps) (news := [.int .i64 a, .int .i64 b]) (v := .slice p n c) rfl (.tmp 67) (.tmp 71) rfl Try.underlying101 infoPr rfl ?_ rfl ?_ rfl ?_ ?_ ?_ ?_ ?_ ?_; rotate_left 7)
  rotate_left 1
  · decide
  · exact ownS_block HP.out.1.own (fun g hg => Below.block ((Below.refl _ _).alloc (Nat.le_refl _) _) g (ownS_ge HP.out.1.own hg).2)
  · exact srcS_top (cs := #[.int .i64 a, .int .i64 b]) (by simp) rfl
  · exact ones_two2 a b
  · exact pr_max HPL.out
  · exact pr_bytes HPL.out
  · exact Nat.le_trans HBW.out (by simp)
  intro v' w3 hap
  have hbl := hap.below (Nat.le_trans HBW.out (by simp)) (fun g hg => (ownS_ge HP.out.1.own hg).1)
  have HAP := Lib.hid hap.own
  have HPP := HP.out
  have hkt : KT gt gb (.slice p n c) v' w w3 := by
    refine ⟨((((Kw.refl _ _).setCell ⟨gt, a, none⟩ (.int .i64 b) (fun h => h.1 rfl)).setCell ⟨gb, b, none⟩ (.int .i64 a) (fun h => h.2.1 rfl)).alloc _).grown hap.grown (fun g hg h => h.2.2 hg), ?_⟩
    rcases hap.at_ with h | h
    · exact .inl h
    · exact .inr ⟨_, h, by simp⟩
  have HKT := Lib.hid hkt
  clear hkt
  have hpost : PrS w3 B0 gt gb B v' (ths.set a b) (bks.set b a) (ps ++ [(a, b)]) ∧ Below B0 w w3 := by
    obtain ⟨h1, h2⟩ := HPP
    have hal : Below B0 ((w.setCell ⟨gt, a, none⟩ (.int .i64 b)).setCell ⟨gb, b, none⟩ (.int .i64 a)) _ := (Below.refl _ _).alloc (Nat.le_trans (Nat.le_trans h1.t0 (Nat.le_of_lt h1.tB)) (Nat.le_trans HBW.out (by simp))) (Obj.cells #[.int .i64 a, .int .i64 b] 105)
    have hal2 : Below B ((w.setCell ⟨gt, a, none⟩ (.int .i64 b)).setCell ⟨gb, b, none⟩ (.int .i64 a)) _ := (Below.refl _ _).alloc (Nat.le_trans HBW.out (by simp)) (Obj.cells #[.int .i64 a, .int .i64 b] 105)
    have hb3 := hal2.trans hbl
    refine ⟨⟨h1.t0, h1.b0, h1.tB, h1.bB, h1.ne, LR.block h1.th (hb3.block _ h1.tB), LR.block h1.bk (hb3.block _ h1.bB), ?_⟩, h2.trans (hb3.mono (Nat.le_trans h1.t0 (Nat.le_of_lt h1.tB)))⟩
    rw [flatP_snoc, List.length_append]
    exact hap.own
  have HPOST := Lib.hid hpost
  obtain ⟨p', n', c', rfl⟩ : ∃ p n c, v' = .slice p n c := by
    rcases hap.own.2 with ⟨e, _⟩ | ⟨g, c, cur, e, _⟩
    · exact ⟨_, _, _, e⟩
    · exact ⟨_, _, _, e⟩
  clear hap hbl HAP HPP hpost HP hct hcb hcb2 hzt hzb
  go_wp2_with fail
  all_goals go_ret2
  exact ⟨_, rfl, HPOST.out.1, HPOST.out.2, HKT.out⟩
end
section
open Go Go.ChangeShapes Go.WideShapes Go.ChangeAt Go.RowKit
set_option linter.unusedVariables false
set_option linter.unusedSimpArgs false
/-- A word before, a word behind. -/
def WP (ws : List Int) (l : List Nat) (M : Nat → Bool) (x y : Int) : Prop :=
  (kindOf x ≠ 0 ∧ y = x) ∨ (kindOf x = 0 ∧ M (x / 4).toNat = true ∧ y = 4 * (dstA l M (szN ws) (x / 4).toNat : Int))
/-- What is paired. -/
structure PI (ws : List Int) (l : List Nat) (M : Nat → Bool) (tn f : Nat) (N : Nat → Bool) (ths bks : List Int) (ps : List (Nat × Nat)) : Prop where
  tl : ths.length = tn
  bl : bks.length = f
  t : ∀ a, M a = true → ths.getD a 0 = if N a = true then (dstA l M (szN ws) a : Int) else 0
  b : ∀ a, M a = true → bks.getD (dstA l M (szN ws) a) 0 = if N a = true then (a : Int) else 0
  p : ∀ q ∈ ps, M q.1 = true ∧ q.2 = dstA l M (szN ws) q.1
  cnt : ps.length + potN (l.filter M) (fun _ => 0) N ≤ 1048576
section
variable {ws : List Int} {tn f : Nat} {l : List Nat} {M : Nat → Bool} {res : List Int}
theorem dst_inj (h : Cl ws tn l M res) {a b : Nat} (ha : M a = true) (hb : M b = true) (e : dstA l M (szN ws) a = dstA l M (szN ws) b) : a = b := by
  obtain ⟨i, hi, e1, e2⟩ := h.dst ha
  obtain ⟨j, hj, e3, e4⟩ := h.dst hb
  rw [e2, e4] at e
  have := frL_inj h hi hj e
  rw [← e1, ← e3, this]
theorem dst_f (h : Cl ws tn l M res) (hf : frK l M (szN ws) l.length = f) {a : Nat} (ha : M a = true) : 1 ≤ dstA l M (szN ws) a ∧ dstA l M (szN ws) a < f ∧ f ≤ 1048576 := by
  subst hf
  have h1 := h.dst_lt ha
  have h2 := h.ob2.in1 _ h1.2.2
  have h3 := h.ob2.le
  have h4 := h.ob2.most
  omega
variable {N : Nat → Bool} {ths bks : List Int} {ps : List (Nat × Nat)}
theorem PI.new (h : PI ws l M tn f N ths bks ps) (hc : Cl ws tn l M res) (hf : frK l M (szN ws) l.length = f) {a : Nat} (ha : M a = true) (hn : N a = false) :
    PI ws l M tn f (addM N a) (ths.set a (dstA l M (szN ws) a : Nat)) (bks.set (dstA l M (szN ws) a) a) (ps ++ [(a, dstA l M (szN ws) a)]) ∧
    (ps ++ [(a, dstA l M (szN ws) a)]).length + potN (l.filter M) (fun _ => 0) (addM N a) = ps.length + potN (l.filter M) (fun _ => 0) N := by
  have hal := hc.sub a ha
  have hin := hc.ob.in1 a hal
  have hd := dst_f hc hf ha
  have hp := potN_add (T := fun _ => 0) (l.filter M) ((hc.ob.rising.imp fun h => Nat.ne_of_lt h).filter _) (List.mem_filter.2 ⟨hal, ha⟩) hn
  have hcnt := h.cnt
  have e : (ps ++ [(a, dstA l M (szN ws) a)]).length + potN (l.filter M) (fun _ => 0) (addM N a) = ps.length + potN (l.filter M) (fun _ => 0) N := by
    rw [List.length_append]; simp only [List.length_cons, List.length_nil]; omega
  refine ⟨⟨by rw [List.length_set, h.tl], by rw [List.length_set, h.bl], fun c hc1 => ?_, fun c hc1 => ?_, fun q hq => ?_, by omega⟩, e⟩
  · rw [getD_set' _ _ _ _ (by rw [h.tl]; omega), h.t c hc1]
    unfold addM
    by_cases hca : c = a
    · subst hca; simp
    · simp [hca]
  · rw [getD_set' _ _ _ _ (by rw [h.bl]; omega), h.b c hc1]
    unfold addM
    by_cases hca : c = a
    · subst hca; simp
    · rw [if_neg (fun e => hca (dst_inj hc hc1 ha e))]
      simp [hca]
  · rcases List.mem_append.1 hq with hq | hq
    · exact h.p q hq
    · rw [List.mem_singleton] at hq
      subst hq
      exact ⟨ha, rfl⟩
/-- Which ones are paired, as the row tells. -/
def noT (o : Option Obj) : Nat → Bool := fun a => match o with
  | some (.cells cs _ _) => match cs[a]? with
    | some (.int _ x) => decide (x ≠ 0)
    | _ => false
  | _ => false
theorem PI.noT (h : PI ws l M tn f N ths bks ps) (hc : Cl ws tn l M res) (hf : frK l M (szN ws) l.length = f) {w : World} {g : Nat} (ht : LR .i64 3 w g ths) : potN (l.filter M) (fun _ => 0) (Go.Proofs.Ytfhjpgbnojdlkaa.noT w.heap[g]?) = potN (l.filter M) (fun _ => 0) N := by
  refine potN_congr fun a ha => ?_
  have hm := (List.mem_filter.1 ha).2
  have h1 := h.t a hm
  have h2 := dst_f hc hf hm
  have hin := hc.ob.in1 a (List.mem_filter.1 ha).1
  have hl : a < ths.length := by rw [h.tl]; omega
  rw [List.getD_eq_getElem?_getD, List.getElem?_eq_getElem hl] at h1
  simp only [Option.getD_some] at h1
  unfold LR at ht
  unfold Go.Proofs.Ytfhjpgbnojdlkaa.noT
  rw [ht]
  simp only [List.getElem?_toArray, List.getElem?_map, List.getElem?_eq_getElem hl, Option.map_some]
  rw [h1]
  cases hN : N a
  · simp
  · simp; omega
theorem PI.start (hc : Cl ws tn l M res) : PI ws l M tn f (fun _ => false) (List.replicate tn 0) (List.replicate f 0) [] := by
  have z : ∀ n i, (List.replicate n (0 : Int)).getD i 0 = 0 := fun n i => by
    rw [List.getD_eq_getElem?_getD, List.getElem?_replicate]
    split <;> rfl
  refine ⟨by simp, by simp, fun a _ => by rw [z]; rfl, fun a _ => by rw [z]; rfl, fun q hq => by simp at hq, ?_⟩
  have h1 : ∀ L : List Nat, potN L (fun _ => 0) (fun _ => false) = L.length := fun L => by
    unfold potN
    induction L with
    | nil => rfl
    | cons a L ih => simp only [List.map_cons, List.sum_cons, List.length_cons]; rw [ih]; simp; omega
  rw [h1]
  have := List.length_filter_le M l
  have h2 := rising_len hc.ob.rising (fun x hx => by have := (hc.ob.in1 x hx); exact (by omega : x < tn))
  have h3 := hc.ob.le
  have h4 := hc.ob.most
  rw [List.length_nil]
  omega
/-- What match leaves. -/
def MaPost (ws : List Int) (l : List Nat) (M : Nat → Bool) (tn f B0 gt gb B : Nat) (N : Nat → Bool) (ps : List (Nat × Nat)) (tv : Value) (w : World) (e : Ending) (w' : World) : Prop :=
  ∃ tv' N' ths' bks' ps', e = .returned (.tuple #[tv', .bool true]) ∧ PrS w' B0 gt gb B tv' ths' bks' ps' ∧ PI ws l M tn f N' ths' bks' ps' ∧ ps'.length + potN (l.filter M) (fun _ => 0) N' = ps.length + potN (l.filter M) (fun _ => 0) N ∧ Below B0 w w' ∧ KT gt gb tv tv' w w'
theorem PrS.drew {w : World} {B0 gt gb B : Nat} {tv : Value} {ths bks : List Int} {ps : List (Nat × Nat)} (h : PrS w B0 gt gb B tv ths bks ps) (q : Nat) : PrS (w.drewN q) B0 gt gb B tv ths bks ps := by
  have hb : Below w.heap.size w (w.drewN q) := below_drewN (Below.refl _ _) q
  exact ⟨h.t0, h.b0, h.tB, h.bB, h.ne, LR.keep h.th hb, LR.keep h.bk hb, ownS_block h.own fun g hg => hb.block g (ownS_ge h.own hg).2⟩
theorem match_any (hc : Cl ws tn l M res) (hf : frK l M (szN ws) l.length = f) {B0 gt gb B : Nat} {tv : Value} {w : World} (hs : PrS w B0 gt gb B tv ths bks ps) (hp : PI ws l M tn f N ths bks ps) (x y : Int) (hx : 0 ≤ x ∧ x ≤ 18446744073709551615) (hxy : WP ws l M x y) (hB : B ≤ w.heap.size) :
    Calls Try.prog 62 #[.int .u64 x, .int .u64 y, .slice (some ⟨gt, 0, none⟩) tn tn, .slice (some ⟨gb, 0, none⟩) f f, tv] w (MaPost ws l M tn f B0 gt gb B N ps tv w) := by
  rcases hxy with ⟨hk, rfl⟩ | ⟨hk, hM, rfl⟩
  · have hd : ∃ p n c, tv = .slice p n c := by
      rcases hs.own.2 with ⟨e, _⟩ | ⟨g, c, cur, e, _⟩
      · exact ⟨_, _, _, e⟩
      · exact ⟨_, _, _, e⟩
    refine (match_same y hx hk _ _ tv w hd).mono ?_
    rintro e w' ⟨rfl, rfl⟩
    exact ⟨tv, N, ths, bks, ps, rfl, hs, hp, rfl, Below.refl _ _, KT.refl _ _ _ _⟩
  · have hkn := kind_nat hk
    obtain ⟨a, ha⟩ : ∃ a, (x / 4).toNat = a := ⟨_, rfl⟩
    rw [ha] at hM ⊢
    have hd := dst_f hc hf hM
    have h4 := hc.four hM
    have hin := hc.ob.in1 a (hc.sub a hM)
    have hle := hc.ob.most
    have hle2 := hc.ob.le
    have ht := hp.t a hM
    have hb := hp.b a hM
    have ex : x / 4 = (a : Int) := by omega
    have ey : (4 * (dstA l M (szN ws) a : Int)) / 4 = ((dstA l M (szN ws) a : Nat) : Int) := by omega
    have htl := hp.tl
    have hbl := hp.bl
    cases hN : N a
    · rw [hN, if_neg Bool.false_ne_true] at ht hb
      have hnew := hp.new hc hf hM hN
      have hcn := hp.cnt
      have := match_new hs x (4 * (dstA l M (szN ws) a : Int)) hx (by omega) a (dstA l M (szN ws) a) hk h4.1 ex ey (by omega) (by omega) ht hb hd.1 hB (by omega)
      rw [htl, hbl] at this
      refine this.mono ?_
      rintro e w' ⟨tv', rfl, h1, h2, h3⟩
      exact ⟨tv', _, _, _, _, rfl, h1, hnew.1, hnew.2, h2, h3⟩
    · rw [hN, if_pos rfl] at ht hb
      have := match_old hs x (4 * (dstA l M (szN ws) a : Int)) hx (by omega) a (dstA l M (szN ws) a) hk h4.1 ex ey (by omega) (by omega) ht hb hd.1
      rw [htl, hbl] at this
      refine this.mono ?_
      rintro e w' ⟨rfl, q, rfl⟩
      exact ⟨tv, N, ths, bks, ps, rfl, hs.drew q, hp, rfl, below_drewN (Below.refl _ _) q, KT.drew _ _ _ _ q⟩
/-- The words of a pair of objects. -/
theorem Cl.wp (h : Cl ws tn l M res) {a k : Nat} (ha : M a = true) (hk : k < tgN ws a) : WP ws l M (ws.getD (a + 2 + k) 0) (res.getD (dstA l M (szN ws) a + 2 + k) 0) := by
  obtain ⟨i, hi, e1, e2⟩ := h.dst ha
  subst e1
  rw [e2]
  have ht := h.tagged hi hk
  rw [ht]
  by_cases h6 : ws.getD ((l.filter M).getD i 0 + 2 + k) 0 % 4 = 0
  · rw [if_pos h6]
    have hia : (l.filter M).getD i 0 + 2 + k ∈ adrP ws ((l.filter M).getD i 0) (tgN ws ((l.filter M).getD i 0)) := adrP_mem.2 ⟨k, hk, rfl, h6⟩
    exact .inr ⟨(h.ob.adr (h.lm hi).1 hia).1, h.cls _ (h.lm hi).2 _ hia, rfl⟩
  · rw [if_neg h6]
    exact .inl ⟨fun g => h6 (by have := kind_nat g; omega), rfl⟩
theorem Cl.wr (h : Cl ws tn l M res) {a k : Nat} (ha : M a = true) (hk : tgN ws a ≤ k) (hk2 : 2 + k < szN ws a) : res.getD (dstA l M (szN ws) a + 2 + k) 0 = ws.getD (a + 2 + k) 0 := by
  obtain ⟨i, hi, e1, e2⟩ := h.dst ha
  subst e1
  rw [e2]
  have := h.raw hi (p := 2 + k) hk2 (by omega)
  rwa [← Nat.add_assoc, ← Nat.add_assoc] at this
theorem Cl.hd (h : Cl ws tn l M res) {a : Nat} (ha : M a = true) : res.getD (dstA l M (szN ws) a) 0 = ws.getD a 0 := by
  obtain ⟨i, hi, e1, e2⟩ := h.dst ha
  subst e1
  rw [e2]
  exact h.head hi
/-- The roots. -/
theorem Cl.wroot (h : Cl ws tn l M res) {rs : List Int} (hM : ∀ a, M a = true ↔ Rch ws rs a) {x : Int} (hx : x ∈ rs) : WP ws l M x (trR ws l M x) := by
  unfold trR
  by_cases h0 : kindOf x = 0
  · rw [if_pos h0]
    exact .inr ⟨h0, (hM _).2 (.root hx h0), rfl⟩
  · rw [if_neg h0]
    exact .inl ⟨h0, rfl⟩
end
end
section
open Go Go.ChangeShapes Go.WideShapes Go.ChangeAt Go.RowKit
set_option linter.unusedVariables false
set_option linter.unusedSimpArgs false
/-- The memory while pairs are sought. -/
def AQ (ws : List Int) (l : List Nat) (M : Nat → Bool) (tn f K : Nat) (w0 : World) (ps : List (Nat × Nat)) (tv : Value) (wr : World) : Prop :=
  ∃ N ths bks, PrS wr (K + 2) (K + 2) (K + 3) (K + 4) tv ths bks ps ∧ PI ws l M tn f N ths bks ps ∧ Below (K + 2) w0 wr ∧ K + 4 ≤ wr.heap.size
theorem AQ.form {ws : List Int} {l : List Nat} {M : Nat → Bool} {tn f K : Nat} {w0 wr : World} {ps : List (Nat × Nat)} {tv : Value} (h : AQ ws l M tn f K w0 ps tv wr) : ∃ p c, tv = .slice p ps.length c := by
  obtain ⟨N, ths, bks, h1, _⟩ := h
  obtain ⟨h1, h2⟩ := h1.own
  rcases h2 with ⟨e, h0⟩ | ⟨g, c, cur, e, _⟩
  · exact ⟨none, 0, by rw [e, h0]⟩
  · exact ⟨_, _, e⟩
theorem al_cell {S : Nat} {A B : World} (h : Below S A B) {a : Addr} {v : Value} (hb : a.block < S) (hc : A.cell? a = some v) : B.cell? a = some v := (World.cell?_of_block (h.block _ hb)).trans hc
theorem AQ.keep {ws : List Int} {l : List Nat} {M : Nat → Bool} {tn f K : Nat} {w0 wr w' : World} {ps : List (Nat × Nat)} {tv : Value} (h : AQ ws l M tn f K w0 ps tv wr) (hb : Below wr.heap.size wr w') : AQ ws l M tn f K w0 ps tv w' := by
  obtain ⟨N, ths, bks, h1, h2, h3, h4⟩ := h
  have := h1.tB
  have := h1.bB
  exact ⟨N, ths, bks, ⟨h1.t0, h1.b0, h1.tB, h1.bB, h1.ne, LR.keep h1.th hb, LR.keep h1.bk hb, ownS_block h1.own fun g hg => hb.block g (ownS_ge h1.own hg).2⟩, h2, h3.trans (hb.mono (by omega)), Nat.le_trans h4 hb.size⟩
theorem AQ.drew {ws : List Int} {l : List Nat} {M : Nat → Bool} {tn f K : Nat} {w0 wr : World} {ps : List (Nat × Nat)} {tv : Value} (h : AQ ws l M tn f K w0 ps tv wr) : AQ ws l M tn f K w0 ps tv wr.drew := by
  obtain ⟨N, ths, bks, h1, h2, h3, h4⟩ := h
  exact ⟨N, ths, bks, h1.drew 1, h2, h3.trans (below_drewN (Below.refl _ _) 1), h4⟩
theorem ob_there {ws : List Int} {tn : Nat} {l : List Nat} (ho : Ob ws tn l) {a : Nat} (ha : a ∈ l) (hk : 0 < hK (ws.getD a 0)) : there (ws.take tn) (a : Int) = true := by
  have h1 := ho.in1 a ha
  have hl := ho.le
  have hlen : (ws.take tn).length = tn := by rw [List.length_take]; omega
  have h6 := hS_lo (ws.getD a 0)
  have h7 := hT_lo (ws.getD a 0)
  have hsz : (szN ws a : Int) = hS (ws.getD a 0) := by unfold szN; omega
  have htg : (tgN ws a : Int) = hT (ws.getD a 0) := by unfold tgN; omega
  unfold there
  rw [at_obj ho ha, hlen, decide_eq_true_eq]
  exact ⟨by omega, by omega, hk, by omega, by omega⟩
theorem at_ob {ws : List Int} {tn : Nat} {l : List Nat} (ho : Ob ws tn l) {a : Nat} (ha : a ∈ l) (hk : 0 < hK (ws.getD a 0)) {v : Value} {wx : World} (hr : Rd wx v ws) {kk : Int} {T S : Nat} (e1 : hK (ws.getD a 0) = kk) (e2 : tgN ws a = T) (e3 : szN ws a = S) :
    Calls Try.prog 49 #[.agg #[v, .int .i64 tn], .int .i64 a] wx fun e w' => e = .returned (.tuple #[.agg #[.int .i64 kk, .int .i64 T, .int .i64 S], .bool true]) ∧ Below wx.heap.size wx w' := by
  subst e1; subst e2; subst e3
  have hle := ho.le
  have hmost := ho.most
  have h := refat_any v ws tn a wx hr ho.fit (by omega) ⟨by omega, by omega⟩
  unfold objAt obj at h
  rw [Int.toNat_natCast, at_obj ho ha, ob_there ho ha hk] at h
  have h6 := hS_lo (ws.getD a 0)
  have h7 := hT_lo (ws.getD a 0)
  rw [show hT (ws.getD a 0) = ((tgN ws a : Nat) : Int) by unfold tgN; omega, show hS (ws.getD a 0) = ((szN ws a : Nat) : Int) by unfold szN; omega] at h
  exact h
/-- The last pair is taken off. -/
theorem AQ.last {ws : List Int} {l : List Nat} {M : Nat → Bool} {tn f K : Nat} {w0 wr : World} {ps : List (Nat × Nat)} {a b c : Nat} {p : Option Addr} (h : AQ ws l M tn f K w0 (ps ++ [(a, b)]) (.slice p (ps.length + 1) c) wr) :
    ∃ g, p = some ⟨g, 0, none⟩ ∧ ps.length + 1 ≤ c ∧ wr.cell? ⟨g, ps.length * 2, none⟩ = some (.int .i64 a) ∧ wr.cell? ⟨g, ps.length * 2 + 1, none⟩ = some (.int .i64 b) ∧ M a = true ∧ b = dstA l M (szN ws) a ∧ AQ ws l M tn f K w0 ps (.slice p ps.length c) wr := by
  obtain ⟨N, ths, bks, h1, h2, h3, h4⟩ := h
  have ho := h1.own
  have hq := h2.p (a, b) (by simp)
  rw [flatP_snoc, List.length_append, List.length_singleton] at ho
  obtain ⟨k1, k2⟩ := ho
  rcases k2 with ⟨_, h0⟩ | ⟨g, cap, cur, e, k3, k4, k5, k6, k7, k8⟩
  · omega
  · injection e with e1 e2 e3
    subst e1; subst e3
    have hl := flatP_len ps
    have ho2 : wr.ownsRow (K + 4) 105 2 (.slice (some ⟨g, 0, none⟩) (ps.length + 1) c) (ps.length + 1) (flatP ps ++ [.int .i64 a, .int .i64 b]) := ⟨k1, .inr ⟨g, c, cur, rfl, k3, k4, k5, k6, k7, k8⟩⟩
    refine ⟨g, rfl, k5, ?_, ?_, hq.1, hq.2, N, ths, bks, ⟨h1.t0, h1.b0, h1.tB, h1.bB, h1.ne, h1.th, h1.bk, hl, .inr ⟨g, c, cur, rfl, k3, k4, by omega, k6, k7, ?_⟩⟩, ⟨h2.tl, h2.bl, h2.t, h2.b, fun q hq => h2.p q (List.mem_append_left _ hq), by have := h2.cnt; rw [List.length_append] at this; omega⟩, h3, h4⟩
    · rw [ho2.cellAt _ (by omega), List.getElem?_append_right (by omega)]
      simp [hl]
    · rw [ho2.cellAt _ (by omega), List.getElem?_append_right (by omega)]
      simp [hl]
    · have := congrArg (List.take (ps.length * 2)) k8
      rw [List.take_take, List.take_left' hl] at this
      rw [← this]
      congr 1
      omega
/-- What match leaves, of the memory. -/
theorem match_aq {ws : List Int} {tn f : Nat} {l : List Nat} {M : Nat → Bool} {res : List Int} (hc : Cl ws tn l M res) (hf : frK l M (szN ws) l.length = f) {K : Nat} {w0 wr : World} {ps : List (Nat × Nat)} {tv : Value} (h : AQ ws l M tn f K w0 ps tv wr) (x y : Int) (hx : 0 ≤ x ∧ x ≤ 18446744073709551615) (hxy : WP ws l M x y) :
    Calls Try.prog 62 #[.int .u64 x, .int .u64 y, .slice (some ⟨K + 2, 0, none⟩) tn tn, .slice (some ⟨K + 3, 0, none⟩) f f, tv] wr fun e w' => ∃ p c ps', e = .returned (.tuple #[.slice p ps'.length c, .bool true]) ∧ AQ ws l M tn f K w0 ps' (.slice p ps'.length c) w' ∧ ps'.length + potN (l.filter M) (fun _ => 0) (noT w'.heap[K + 2]?) = ps.length + potN (l.filter M) (fun _ => 0) (noT wr.heap[K + 2]?) ∧ Below (K + 2) wr w' ∧ KT (K + 2) (K + 3) tv (.slice p ps'.length c) wr w' := by
  obtain ⟨N, ths, bks, h1, h2, h3, h4⟩ := h
  refine (match_any hc hf h1 h2 x y hx hxy h4).mono ?_
  rintro e w' ⟨tv', N', ths', bks', ps', rfl, k1, k2, k3, k4, k5⟩
  have hq : AQ ws l M tn f K w0 ps' tv' w' := ⟨N', ths', bks', k1, k2, h3.trans k4, Nat.le_trans h4 k4.size⟩
  obtain ⟨p, c, rfl⟩ := hq.form
  refine ⟨p, c, ps', rfl, hq, ?_, k4, k5⟩
  rw [h2.noT hc hf h1.th, k2.noT hc hf k1.th]
  exact k3
set_option maxRecDepth 100000 in
set_option maxHeartbeats 4000000 in
theorem alike_any {ws : List Int} {tn f : Nat} {l : List Nat} {M : Nat → Bool} {res : List Int} (hc : Cl ws tn l M res) (hf : frK l M (szN ws) l.length = f) {rs : List Int} (hM : ∀ a, M a = true ↔ Rch ws rs a) (hfr : Fit rs) (v v2 rv qv : Value) (w : World)
    (hr : Rd w v ws) (hr2 : Rd w v2 res) (hrr : Rd w rv rs) (hq : Rd w qv (rs.map (trR ws l M))) :
    Calls Try.prog 23 #[.agg #[v, .int .i64 tn], rv, .agg #[v2, .int .i64 f], qv] w fun e w' => e = .returned (.bool true) ∧ Below w.heap.size w w' := by
  have htn : tn ≤ 1048576 := Nat.le_trans hc.ob.le hc.ob.most
  have hfl : f ≤ 1048576 := by rw [← hf]; exact Nat.le_trans hc.ob2.le hc.ob2.most
  have HC := Lib.hid hc
  have HF := Lib.hid hf
  have HM := Lib.hid hM
  have HFR := Lib.hid hfr
  have HR := Lib.hid hr
  have HR2 := Lib.hid hr2
  have HRR := Lib.hid hrr
  have HQ := Lib.hid hq
  obtain ⟨pv, cv, rfl, hmv⟩ := rd_form0 hr
  obtain ⟨p2, c2, rfl, hm2⟩ := rd_form0 hr2
  obtain ⟨pr, cr, rfl, hmr⟩ := rd_form0 hrr
  obtain ⟨pq, cq, rfl, hmq⟩ := rd_form0 hq
  rw [List.length_map] at *
  have hmk := run_make_row' (P := Try.prog) 26 3 (.int .i64 0) 8 Try.underlying26 infoI64 rfl .i64 .i64 tn (by omega) (by omega)
  have hmk2 := run_make_row' (P := Try.prog) 26 3 (.int .i64 0) 8 Try.underlying26 infoI64 rfl .i64 .i64 f (by omega) (by omega)
  clear hc hf hM hfr hr hr2 hrr hq
  go_enter Try.func23, Try.ntmps23
  go_wp2_with fail
  obtain ⟨w0, hw0⟩ : ∃ w0, (((w.alloc (Obj.cells #[.slice pv ws.length cv, .int .i64 (tn : Int)] 24)).alloc (Obj.cells #[.slice p2 res.length c2, .int .i64 (f : Int)] 24)).alloc (Obj.cells (madeCells #[.int .i64 0] tn) 3)).alloc (Obj.cells (madeCells #[.int .i64 0] f) 3) = w0 := ⟨_, rfl⟩
  rw [hw0]
  have hs0 : w0.heap.size = w.heap.size + 4 := by rw [← hw0]; simp
  have hb0 : Below w.heap.size w w0 := by rw [← hw0]; exact ((((Below.refl _ _).alloc (Nat.le_refl _) _).alloc (by simp) _).alloc (by simp; omega) _).alloc (by simp; omega) _
  have y0 : w0.cell? ⟨w.heap.size, 0, none⟩ = some (.slice pv ws.length cv) := by rw [← hw0]; exact alloc_cell (alloc_cell (alloc_cell (by simp) _) _) _
  have y1 : w0.cell? ⟨w.heap.size, 1, none⟩ = some (.int .i64 tn) := by rw [← hw0]; exact alloc_cell (alloc_cell (alloc_cell (by simp) _) _) _
  have z0 : w0.cell? ⟨w.heap.size + 1, 0, none⟩ = some (.slice p2 res.length c2) := by rw [← hw0]; exact alloc_cell (alloc_cell (by simp) _) _
  have z1 : w0.cell? ⟨w.heap.size + 1, 1, none⟩ = some (.int .i64 f) := by rw [← hw0]; exact alloc_cell (alloc_cell (by simp) _) _
  have hA : AQ ws l M tn f w.heap.size w0 [] (.slice none 0 0) w0 := by
    have ht := LR.made (k := .i64) (T := 3) ((w.alloc (Obj.cells #[.slice pv ws.length cv, .int .i64 (tn : Int)] 24)).alloc (Obj.cells #[.slice p2 res.length c2, .int .i64 (f : Int)] 24)) tn
    have hb := LR.made (k := .i64) (T := 3) (((w.alloc (Obj.cells #[.slice pv ws.length cv, .int .i64 (tn : Int)] 24)).alloc (Obj.cells #[.slice p2 res.length c2, .int .i64 (f : Int)] 24)).alloc (Obj.cells (madeCells #[.int .i64 0] tn) 3)) f
    have ht := LR.keep ht ((Below.refl _ _).alloc (Nat.le_refl _) (Obj.cells (madeCells #[.int .i64 0] f) 3))
    rw [hw0] at ht hb
    rw [show ((w.alloc (Obj.cells #[.slice pv ws.length cv, .int .i64 (tn : Int)] 24)).alloc (Obj.cells #[.slice p2 res.length c2, .int .i64 (f : Int)] 24)).heap.size = w.heap.size + 2 by simp] at ht
    rw [show (((w.alloc (Obj.cells #[.slice pv ws.length cv, .int .i64 (tn : Int)] 24)).alloc (Obj.cells #[.slice p2 res.length c2, .int .i64 (f : Int)] 24)).alloc (Obj.cells (madeCells #[.int .i64 0] tn) 3)).heap.size = w.heap.size + 3 by simp] at hb
    exact ⟨_, _, _, ⟨by omega, by omega, by omega, by omega, by omega, ht, hb, World.ownsRow_nil _ _ _ _⟩, PI.start HC.out, Below.refl _ _, by omega⟩
  have HA0 := Lib.hid hA
  have HB0 := Lib.hid hb0
  have HY := Lib.hid (And.intro (And.intro y0 y1) (And.intro z0 z1))
  clear hA hb0 hw0 hmk hmk2 y0 y1 z0 z1
  go_loopw [11, 12, 13, 14] (fun tv s _ _ wr => ∃ i ps, s = .int .i64 (i : Nat) ∧ i ≤ rs.length ∧ AQ ws l M tn f w.heap.size w0 ps tv wr) (fun _ s _ _ _ => rs.length - (intOf s).toNat)
  case atStart => exact ⟨0, [], by go_num, Nat.zero_le _, HA0.out⟩
  case round =>
    obtain ⟨i, ps, rfl, hi, hq⟩ := hrel
    obtain ⟨pt, ct, rfl⟩ := hq.form
    have HQ1 := Lib.hid hq
    clear hq
    by_cases hlt : i < rs.length
    · have hlz : (i : Int) < (rs.length : Int) := Int.ofNat_lt.2 hlt
      obtain ⟨N, ths, bks, h1, h2, h3, h4⟩ := HQ1.out
      have hbw : Below w.heap.size w wr := HB0.out.trans (h3.mono (by omega))
      obtain ⟨_, _, e1, _, _, hp1⟩ := rd_form HRR.out
      obtain ⟨_, _, e2, _, _, hp2⟩ := rd_form HQ.out
      injection e1 with e1a e1b e1c
      injection e2 with e2a e2b e2c
      subst e1a; subst e2a
      obtain ⟨b5, o5, rfl, hc5⟩ := hp1 (by omega)
      obtain ⟨b6, o6, rfl, hc6⟩ := hp2 (by rw [List.length_map]; omega)
      have c5 := hc5 i hlt
      have c6 := hc6 i (by rw [List.length_map]; exact hlt)
      have n5 := World.block_lt_of_cell? w _ c5
      have n6 := World.block_lt_of_cell? w _ c6
      have c5 := below_cell hbw c5
      have c6 := below_cell hbw c6
      have hmg : (rs.map (trR ws l M)).getD i 0 = trR ws l M (rs.getD i 0) := by
        rw [List.getD_eq_getElem?_getD, List.getElem?_map, List.getElem?_eq_getElem hlt, List.getD_eq_getElem?_getD, List.getElem?_eq_getElem hlt]; rfl
      rw [hmg] at c6
      have hx := HFR.out i
      have hwp := HC.out.wroot HM.out (x := rs.getD i 0) (by rw [List.getD_eq_getElem?_getD, List.getElem?_eq_getElem hlt]; exact List.getElem_mem hlt)
      have HMA := Lib.hid (match_aq HC.out HF.out HQ1.out.drew _ _ hx hwp)
      have HMB := Lib.hid (match_aq HC.out HF.out HQ1.out _ _ hx hwp)
      have n5' : b5 < w.heap.size + 2 := Nat.lt_of_lt_of_le n5 (by omega)
      have n6' : b6 < w.heap.size + 2 := Nat.lt_of_lt_of_le n6 (by omega)
      generalize rs.getD i 0 = x at *
      generalize trR ws l M x = y at *
      clear h1 h2 h3 h4 hbw hp1 hp2 hc5 hc6 hmg hx hwp e1b e2b e1c e2c
      go_wp2_with fail
      go_region_held3 (fun w' => w'.cell? ⟨b5, o5 + i, none⟩ = some (.int .u64 x) ∧ w'.cell? ⟨b6, o6 + i, none⟩ = some (.int .u64 y)) (first | ((repeat' (first | assumption | apply And.intro)); done) | go_keep | fail)
        ((go_at_call 62; (first | refine HMA.out.mono ?_ | refine HMB.out.mono ?_); rintro e w2 ⟨p, c, ps', rfl, hq2, _, hb2, _⟩; have d5 : w2.cell? ⟨b5, o5 + i, none⟩ = some (.int .u64 x) := al_cell hb2 n5' (by first | assumption | exact c5); have d6 : w2.cell? ⟨b6, o6 + i, none⟩ = some (.int .u64 y) := al_cell hb2 n6' (by first | assumption | exact c6); have HQ2 := Lib.hid hq2; clear hq2))
      go_wp2_with fail
      go_roundw
      case rel => exact ⟨i + 1, ps', by go_num, hlt, HQ2.out⟩
      case measure => exact mk_meas hlt
    · have hke : i = rs.length := Nat.le_antisymm hi (Nat.not_lt.1 hlt)
      subst hke
      have hlz : ¬ (rs.length : Int) < (rs.length : Int) := Int.lt_irrefl _
      clear hlt hi
      go_wp2_with fail
      go_loopw [11, 15, 16, 17, 18, 19, 20, 21, 22, 23, 24] (fun tv _ _ _ _ _ _ _ _ _ _ wr => ∃ ps, AQ ws l M tn f w.heap.size w0 ps tv wr) (fun tv _ _ _ _ _ _ _ _ _ _ wr => sLen tv + potN (l.filter M) (fun _ => 0) (noT (wr.heap[w.heap.size + 2]?)))
      case atStart => exact ⟨ps, HQ1.out⟩
      case round =>
        obtain ⟨qs, hq⟩ := hrel
        rcases List.eq_nil_or_concat qs with rfl | ⟨qs1, ⟨a, b⟩, rfl⟩
        · obtain ⟨pt2, ct2, rfl⟩ := hq.form
          obtain ⟨N, ths, bks, h1, h2, h3, h4⟩ := hq
          have HBE := Lib.hid (HB0.out.trans (h3.mono (by omega)))
          clear h1 h2 h3 h4
          simp only [List.length_nil]
          go_wp2_with fail
          go_ret
          exact ⟨rfl, HBE.out⟩
        · obtain ⟨pt2, ct2, rfl⟩ := hq.form
          rw [List.concat_eq_append, List.length_append, List.length_singleton] at hq ⊢
          obtain ⟨g, rfl, hcl, ca, cb, hMa, hba, hq1⟩ := hq.last
          obtain ⟨N, ths, bks, h1, h2, h3, h4⟩ := hq1
          have hcn := h2.cnt
          have hw1 : IntKind.i64.wrap ((qs1.length : Int) + 1 - 1) = (qs1.length : Int) := IntWalk.i64_in _ (by omega) |>.trans (by omega)
          have hbw := h3.mono (show w.heap.size ≤ w.heap.size + 2 by omega)
          have HBW := Lib.hid (HB0.out.trans hbw)
          have y0 := al_cell h3 (show (⟨w.heap.size, 0, none⟩ : Addr).block < w.heap.size + 2 by dsimp only; omega) HY.out.1.1
          have y1 := al_cell h3 (show (⟨w.heap.size, 1, none⟩ : Addr).block < w.heap.size + 2 by dsimp only; omega) HY.out.1.2
          have z0 := al_cell h3 (show (⟨w.heap.size + 1, 0, none⟩ : Addr).block < w.heap.size + 2 by dsimp only; omega) HY.out.2.1
          have z1 := al_cell h3 (show (⟨w.heap.size + 1, 1, none⟩ : Addr).block < w.heap.size + 2 by dsimp only; omega) HY.out.2.2
          have HQ2 := Lib.hid (show AQ ws l M tn f w.heap.size w0 qs1 (.slice (some ⟨g, 0, none⟩) qs1.length ct2) wr from ⟨N, ths, bks, h1, h2, h3, h4⟩)
          have hal := HC.out.sub a hMa
          have hbl : b ∈ nwL ws l M := by rw [hba]; exact (HC.out.dst_lt hMa).2.2
          have hhd : res.getD b 0 = ws.getD a 0 := by rw [hba]; exact HC.out.hd hMa
          obtain ⟨kk, hkk⟩ : ∃ kk, hK (ws.getD a 0) = kk := ⟨_, rfl⟩
          obtain ⟨T, hTT⟩ : ∃ T, tgN ws a = T := ⟨_, rfl⟩
          obtain ⟨S, hSS⟩ : ∃ S, szN ws a = S := ⟨_, rfl⟩
          have HAT1 := Lib.hid (fun (wx : World) (hx : Below w.heap.size w wx) => at_ob HC.out.ob hal (HC.out.kd a hal) (HR.out.keep hx) hkk hTT hSS)
          have ho2 := HC.out.ob2
          rw [HF.out] at ho2
          have HAT2 := Lib.hid (fun (wx : World) (hx : Below w.heap.size w wx) => at_ob (kk := kk) (T := T) (S := S) ho2 hbl (by rw [hhd]; exact HC.out.kd a hal) (HR2.out.keep hx) (by rw [hhd]; exact hkk) (show tgN res b = T by unfold tgN; rw [hhd]; exact hTT) (show szN res b = S by unfold szN; rw [hhd]; exact hSS))
          have hin := HC.out.ob.in1 a hal
          have HMA := Lib.hid hMa
          have HBA := Lib.hid hba
          have HTT := Lib.hid hTT
          have HSS := Lib.hid hSS
          have hnl : qs1.length ≤ 1048576 := by omega
          have y0a := fun o => alloc_cell y0 o
          have y1a := fun o => alloc_cell y1 o
          have HZ := Lib.hid (And.intro z0 z1)
          clear h1 h2 h3 h4 hq hcn hbw ho2 hbl hhd hkk hTT hSS hMa hba hal z0 z1
          go_wp2_with fail
          obtain ⟨wA, hwA⟩ : ∃ wA, wr.alloc (Obj.cells #[.int .i64 (a : Int), .int .i64 (b : Int)] 105) = wA := ⟨_, rfl⟩
          rw [hwA]
          have hbA : Below wr.heap.size wr wA := by rw [← hwA]; exact (Below.refl _ _).alloc (Nat.le_refl _) _
          have p0 : wA.cell? ⟨wr.heap.size, 0, none⟩ = some (.int .i64 a) := by rw [← hwA]; simp
          have p1 : wA.cell? ⟨wr.heap.size, 1, none⟩ = some (.int .i64 b) := by rw [← hwA]; simp
          clear y0a y1a ca cb
          refine (HAT1.out wA (HBW.out.trans (hbA.mono HBW.out.size))).mono ?_
          rintro e w2 ⟨rfl, hb2⟩
          have HK2 := Lib.hid (hbA.trans (hb2.mono hbA.size))
          have z0 := below_cell HK2.out HZ.out.1
          have z1 := below_cell HK2.out HZ.out.2
          have p0 := below_cell hb2 p0
          have p1 := below_cell hb2 p1
          have z0a := fun o => alloc_cell z0 o
          have z1a := fun o => alloc_cell z1 o
          have p0a := fun o => alloc_cell p0 o
          have p1a := fun o => alloc_cell p1 o
          clear hb2 hbA hwA HAT1
          go_wp2_with fail
          obtain ⟨w3, hw3⟩ : ∃ w3, w2.alloc (Obj.cells #[.int .i64 kk, .int .i64 (T : Int), .int .i64 (S : Int)] 84) = w3 := ⟨_, rfl⟩
          rw [hw3]
          have hb3 : Below w2.heap.size w2 w3 := by rw [← hw3]; exact (Below.refl _ _).alloc (Nat.le_refl _) _
          have x0 : w3.cell? ⟨w2.heap.size, 0, none⟩ = some (.int .i64 kk) := by rw [← hw3]; simp
          have x1 : w3.cell? ⟨w2.heap.size, 1, none⟩ = some (.int .i64 T) := by rw [← hw3]; simp
          have x2 : w3.cell? ⟨w2.heap.size, 2, none⟩ = some (.int .i64 S) := by rw [← hw3]; simp
          have p0 := below_cell hb3 p0
          have p1 := below_cell hb3 p1
          have HK3 := Lib.hid (HK2.out.trans (hb3.mono HK2.out.size))
          clear z0a z1a p0a p1a z0 z1 hw3 hb3
          refine (HAT2.out w3 (HBW.out.trans (HK3.out.mono HBW.out.size))).mono ?_
          rintro e w4 ⟨rfl, hb4⟩
          have x0 := below_cell hb4 x0
          have x1 := below_cell hb4 x1
          have x2 := below_cell hb4 x2
          have p0 := below_cell hb4 p0
          have p1 := below_cell hb4 p1
          have HK4 := Lib.hid (HK3.out.trans (hb4.mono HK3.out.size))
          have x0a := fun o => alloc_cell x0 o
          have x1a := fun o => alloc_cell x1 o
          have x2a := fun o => alloc_cell x2 o
          have p0a := fun o => alloc_cell p0 o
          have p1a := fun o => alloc_cell p1 o
          clear hb4 HAT2
          go_wp2_with fail
          obtain ⟨w5, hw5⟩ : ∃ w5, w4.alloc (Obj.cells #[.int .i64 kk, .int .i64 (T : Int), .int .i64 (S : Int)] 84) = w5 := ⟨_, rfl⟩
          rw [hw5]
          have hb5 : Below w4.heap.size w4 w5 := by rw [← hw5]; exact (Below.refl _ _).alloc (Nat.le_refl _) _
          have x1 := below_cell hb5 x1
          have x2 := below_cell hb5 x2
          have p0 := below_cell hb5 p0
          have p1 := below_cell hb5 p1
          have HK5 := Lib.hid (HK4.out.trans (hb5.mono HK4.out.size))
          have HQ5 := Lib.hid (HQ2.out.keep HK5.out)
          have HX := Lib.hid (And.intro (And.intro x1 x2) (And.intro p0 p1))
          have hgw : g < wr.heap.size := by
            obtain ⟨N, ths, bks, h1, _⟩ := HQ2.out
            exact (ownS_ge h1.own (g := g) rfl).2
          have hKw : w.heap.size + 4 ≤ wr.heap.size := by
            obtain ⟨N, ths, bks, _, _, _, h4⟩ := HQ2.out
            exact h4
          have hwr2 : wr.heap.size ≤ w2.heap.size := HK2.out.size
          have hw25 : w2.heap.size < w5.heap.size := World.block_lt_of_cell? w5 _ x1
          have HMS := Lib.hid (show noT (w5.heap[w.heap.size + 2]?) = noT (wr.heap[w.heap.size + 2]?) by rw [HK5.out.block _ (by omega)])
          have hS2 : S ≤ 1048576 ∧ 2 ≤ S := by have := HC.out.ob.le; have := HC.out.ob.most; have := HSS.out; omega
          obtain ⟨wB, rfl⟩ : ∃ wB : World, wB = wr := ⟨_, rfl⟩
          have hSW : IntKind.i64.wrap ((S : Int) - 2) = (S : Int) - 2 := IntWalk.i64_in _ (by omega)
          clear x0a x1a x2a p0a p1a x0 x1 x2 p0 p1 hw5 hb5 y0 y1
          go_loopw [11, 20, 21, 22, 23, 24] (fun tv s _ _ _ _ wx => ∃ k p c ps', tv = .slice p (List.length ps') c ∧ s = .int .i64 (k : Nat) ∧ k + 2 ≤ S ∧ AQ ws l M tn f w.heap.size w0 ps' tv wx ∧ ps'.length + potN (l.filter M) (fun _ => 0) (noT wx.heap[w.heap.size + 2]?) = qs1.length + potN (l.filter M) (fun _ => 0) (noT wB.heap[w.heap.size + 2]?) ∧ (∀ q, tv.ownBlock = some q → q < wB.heap.size ∨ w5.heap.size ≤ q) ∧ wx.heap[wB.heap.size]? = w5.heap[wB.heap.size]? ∧ wx.heap[w2.heap.size]? = w5.heap[w2.heap.size]? ∧ w5.heap.size ≤ wx.heap.size) (fun _ s _ _ _ _ _ => S - (intOf s).toNat)
          case atStart => exact ⟨0, _, _, qs1, rfl, by go_num, by omega, HQ5.out, by rw [HMS.out], fun q hq => .inl (by cases hq; exact hgw), rfl, rfl, Nat.le_refl _⟩
          case round =>
            obtain ⟨k, p, c, ps', rfl, rfl, hk, hq, hms, hown, hbp, hbx, hsz⟩ := hrel
            have x1 := (World.cell?_of_block (a := ⟨w2.heap.size, 1, none⟩) hbx).trans HX.out.1.1
            have x2 := (World.cell?_of_block (a := ⟨w2.heap.size, 2, none⟩) hbx).trans HX.out.1.2
            have p0 := (World.cell?_of_block (a := ⟨wB.heap.size, 0, none⟩) hbp).trans HX.out.2.1
            have p1 := (World.cell?_of_block (a := ⟨wB.heap.size, 1, none⟩) hbp).trans HX.out.2.2
            by_cases hlt : k + 2 < S
            · have hlz : (k : Int) < (S : Int) - 2 := by omega
              have hss := HSS.out
              have htt := HTT.out
              have hle := HC.out.ob.le
              have hmost := HC.out.ob.most
              have hrl := HC.out.co.len
              obtain ⟨N2, ths2, bks2, g1, g2, g3, g4⟩ := hq
              have hbw := HB0.out.trans (g3.mono (show w.heap.size ≤ w.heap.size + 2 by omega))
              have y0 := al_cell g3 (show (⟨w.heap.size, 0, none⟩ : Addr).block < w.heap.size + 2 by dsimp only; omega) HY.out.1.1
              have z0 := al_cell g3 (show (⟨w.heap.size + 1, 0, none⟩ : Addr).block < w.heap.size + 2 by dsimp only; omega) HY.out.2.1
              obtain ⟨bw, ow, cw, hvw, _, _, hcw⟩ := (HR.out.keep hbw).some (by omega)
              injection hvw with e1 e2 e3
              subst e1; subst e3
              obtain ⟨bn, on, cn, hvn, _, _, hcn⟩ := (HR2.out.keep hbw).some (by omega)
              injection hvn with e4 e5 e6
              subst e4; subst e6
              have hbf := dst_f HC.out HF.out HMA.out
              have hob2 := HC.out.ob2
              have hinb := hob2.in1 b (by rw [HBA.out]; exact (HC.out.dst_lt HMA.out).2.2)
              have hszb : szN res b = S := by rw [← hss]; unfold szN; rw [HBA.out, HC.out.hd HMA.out]
              have hfle := hob2.le
              have ca := hcw (a + 2 + k) (by omega)
              have cb := hcn (b + 2 + k) (by omega)
              have hvb := HC.out.ob.fit (a + 2 + k)
              have hwp : k < T → WP ws l M (ws.getD (a + 2 + k) 0) (res.getD (b + 2 + k) 0) := fun h => by rw [HBA.out]; exact HC.out.wp HMA.out (by omega)
              have hwr : T ≤ k → res.getD (b + 2 + k) 0 = ws.getD (a + 2 + k) 0 := fun h => by rw [HBA.out]; exact HC.out.wr HMA.out (by omega) (by omega)
              obtain ⟨x, hx⟩ : ∃ x, ws.getD (a + 2 + k) 0 = x := ⟨_, rfl⟩
              obtain ⟨y, hy⟩ : ∃ y, res.getD (b + 2 + k) 0 = y := ⟨_, rfl⟩
              rw [hx] at ca hvb hwp hwr
              rw [hy] at cb hwp hwr
              have wa := rc_a2 (a := a) (k := k) (by omega)
              have wb := rc_a2 (a := b) (k := k) (by omega)
              have wa1 := wa.1
              have wa2 := wa.2
              have wb1 := wb.1
              have wb2 := wb.2
              have la := rc_lt (a := a) (k := k) (n := ws.length) (by omega)
              have lb := rc_lt (a := b) (k := k) (n := res.length) (by omega)
              have HWP := Lib.hid hwp
              have HWR := Lib.hid hwr
              have HVB := Lib.hid hvb
              have HQ7 := Lib.hid (show AQ ws l M tn f w.heap.size w0 ps' (.slice p ps'.length c) wr from ⟨N2, ths2, bks2, g1, g2, g3, g4⟩)
              have HIN := Lib.hid (And.intro (And.intro hms hown) (And.intro (And.intro hbp hbx) hsz))
              have hkm : k ≤ 1048576 := by omega
              clear hss htt hle hmost g1 g2 g3 g4 hbw hcw hcn hbf hob2 hinb hszb hfle hwp hwr hvb hx hy wa wb hms hown hbp hbx hsz e2 e5 hin hrl
              go_wp2_with fail
              go_quiet (fail)
              obtain ⟨wD, hwD⟩ : ∃ wD, wr.drewN nq = wD := ⟨_, rfl⟩
              rw [hwD]
              have hbd : Below wr.heap.size wr wD := by rw [← hwD]; exact below_drewN (Below.refl _ _) nq
              have hhd : wD.heap = wr.heap := by rw [← hwD]; rfl
              have HHD := Lib.hid hhd
              have x1 := below_cell hbd x1
              have x2 := below_cell hbd x2
              have p0 := below_cell hbd p0
              have p1 := below_cell hbd p1
              have HQ8 := Lib.hid (HQ7.out.keep hbd)
              clear hwD hbd hhd ca cb wa1 wa2 wb1 wb2 la lb y0 z0
              by_cases hkT : k < T
              · have hkz : ¬ (T : Int) ≤ (k : Int) := by omega
                have HMC := Lib.hid (match_aq HC.out HF.out HQ8.out x y HVB.out (HWP.out hkT))
                go_wp2_with fail
                refine HMC.out.mono ?_
                rintro e w6 ⟨p6, c6, ps6, rfl, hq6, hm6, hb6, hkt⟩
                have hqq := HIN.out
                obtain ⟨⟨hms, hown⟩, ⟨hbp, hbx⟩, hsz⟩ := hqq
                have hin6 : ps6.length + potN (l.filter M) (fun _ => 0) (noT w6.heap[w.heap.size + 2]?) = qs1.length + potN (l.filter M) (fun _ => 0) (noT wB.heap[w.heap.size + 2]?) ∧ (∀ q, (Value.slice p6 ps6.length c6).ownBlock = some q → q < wB.heap.size ∨ w5.heap.size ≤ q) ∧ w6.heap[wB.heap.size]? = w5.heap[wB.heap.size]? ∧ w6.heap[w2.heap.size]? = w5.heap[w2.heap.size]? ∧ w5.heap.size ≤ w6.heap.size := by
                  have hsd : wD.heap.size = wr.heap.size := by rw [HHD.out]
                  refine ⟨by rw [hm6, HHD.out]; exact hms, fun q hq => ?_, ?_, ?_, Nat.le_trans hsz (by have := hb6.size; omega)⟩
                  · rcases hkt.2 with h | ⟨g6, h, hg6⟩
                    · exact hown q (h.symm.trans hq)
                    · rw [h] at hq
                      injection hq with hq
                      exact .inr (by omega)
                  · rw [hkt.1.block wB.heap.size ⟨by omega, by omega, fun h => by have := hown _ h; omega⟩ (by omega), HHD.out, hbp]
                  · rw [hkt.1.block w2.heap.size ⟨by omega, by omega, fun h => by have := hown _ h; omega⟩ (by omega), HHD.out, hbx]
                have HIN6 := Lib.hid hin6
                have HQ9 := Lib.hid hq6
                clear hq6 hm6 hb6 hkt hms hown hbp hbx hsz hin6 HMC
                go_wp2_with fail
                go_roundw
                case rel => exact ⟨k + 1, p6, c6, ps6, rfl, by go_num, by omega, HQ9.out, HIN6.out⟩
                case measure => simp [intOf]; omega
              · have hkz : (T : Int) ≤ (k : Int) := by omega
                obtain rfl := HWR.out (by omega)
                go_wp2_with fail
                go_roundw
                case rel => exact ⟨k + 1, p, c, ps', rfl, by go_num, by omega, HQ8.out, by rw [HHD.out]; exact HIN.out.1.1, HIN.out.1.2, by rw [HHD.out]; exact HIN.out.2.1.1, by rw [HHD.out]; exact HIN.out.2.1.2, by rw [HHD.out]; exact HIN.out.2.2⟩
                case measure => simp [intOf]; omega
            · have hlz : ¬ (k : Int) < (S : Int) - 2 := by omega
              have HMQ := Lib.hid hms
              have HQ6 := Lib.hid hq
              have hpot : ∀ z : Nat, ps'.length + z = qs1.length + potN (l.filter M) (fun _ => 0) (noT wB.heap[w.heap.size + 2]?) → ps'.length + z < qs1.length + 1 + potN (l.filter M) (fun _ => 0) (noT wB.heap[w.heap.size + 2]?) := fun z hz => by omega
              have HPOT := Lib.hid (hpot _ hms)
              clear hq hms hown hpot
              go_wp2_with fail
              go_roundw
              case rel => exact ⟨ps', HQ6.out⟩
              case measure => exact HPOT.out
end
end Go.Proofs.Ytfhjpgbnojdlkaa
