/- Layer 4: rows of bytes, appended onto: a row of one's own, or a converted literal. -/
import Derived.Test.YtcjomeghcihecaaDoorPLxAk
import Derived.ArgAppend
import Derived.Deep.Onto
namespace Go.Proofs.YtcjomeghcihecaaDoor
open Go Go.ChangeShapes Go.WideShapes Go.ChangeAt Go.RowKit Go.PlainAid Go.Maps
set_option linter.unusedVariables false
set_option linter.unusedSimpArgs false
theorem ints8_len (l : Bs) : (ints8 l).length = l.length := by simp [ints8]
/-- The cells of a row of bytes. -/
def c8 (l : Bs) : List Value := (ints8 l).map (Value.int .u8)
theorem c8_app (a b : Bs) : c8 (a ++ b) = c8 a ++ c8 b := by simp [c8, ints8]
theorem c8_len (l : Bs) : (c8 l).length = l.length := by simp [c8, ints8]
theorem c8_at {l : Bs} {j : Nat} {u : Value} (h : (c8 l)[j]? = some u) : j < l.length ∧ u = .int .u8 ((ints8 l).getD j 0) := by
  have hj : j < (c8 l).length := (List.getElem?_eq_some_iff.1 h).1
  rw [c8_len] at hj
  refine ⟨hj, ?_⟩
  unfold c8 at h
  rw [List.getElem?_map, List.getElem?_eq_getElem (by rw [ints8_len]; exact hj)] at h
  simp only [Option.map_some, Option.some.injEq] at h
  rw [← h, List.getD_eq_getElem?_getD, List.getElem?_eq_getElem (by rw [ints8_len]; exact hj)]
  rfl
theorem c8_one (l : Bs) : ∀ u ∈ c8 l, u.oneCell' = true := by
  intro u hu
  unfold c8 at hu
  obtain ⟨x, _, rfl⟩ := List.mem_map.1 hu
  rfl
/-- A row of bytes of one's own. -/
def O8 (B : Nat) (w : World) (v : Value) (l : Bs) : Prop := w.ownsRow B 5 1 v l.length (c8 l)
theorem O8.ow {B : Nat} {w : World} {v : Value} {l : Bs} (h : O8 B w v l) : OW .u8 5 w B v (ints8 l) := by
  unfold OW
  rw [ints8_len]
  exact h
theorem O8.r8 {B : Nat} {w : World} {v : Value} {l : Bs} (h : O8 B w v l) (hl : l.length ≤ 140737488355328) : R8 w v l := h.ow.rb (by rw [ints8_len]; exact hl)
theorem R8.src {w : World} {v : Value} {l : Bs} (h : R8 w v l) : Src w v l.length (c8 l) := by
  rcases h with ⟨p, rfl, e⟩ | ⟨b, off, c, rfl, h1, h2, h3⟩
  · have hl : l = [] := by cases l with | nil => rfl | cons x y => simp [ints8] at e
    subst hl
    cases p with
    | none => exact ⟨rfl, .inl ⟨rfl, rfl⟩⟩
    | some ad => exact ⟨rfl, .inr ⟨ad, 0, rfl, fun j u hu => by simp [c8, ints8] at hu⟩⟩
  · refine ⟨c8_len l, .inr ⟨⟨b, off, none⟩, c, by rw [ints8_len], fun j u hu => ?_⟩⟩
    obtain ⟨hj, rfl⟩ := c8_at hu
    rw [Addr.add_lit]
    exact h3 j (by rw [ints8_len]; exact hj)
theorem R8.keep {w w' : World} {v : Value} {l : Bs} (h : R8 w v l) (hb : Below w.heap.size w w') : R8 w' v l := Rb.keep h hb
theorem O8.form {B : Nat} {w : World} {v : Value} {l : Bs} (h : O8 B w v l) : ∃ p k, v = .slice p l.length k := owns_form h
theorem O8.alloc {B : Nat} {w : World} {v : Value} {l : Bs} (h : O8 B w v l) (o : Obj) : O8 B (w.alloc o) v l :=
  owns_of h fun g hg => Below.heap_alloc _ _ _ (owns_lt h hg).2
/-- The literal, converted; or a row of one's own. -/
def Nt (B g : Nat) (N : Bs) (w : World) (v : Value) (l : Bs) : Prop := (v = .slice (some ⟨g, 0, none⟩) N.length N.length ∧ l = N ∧ ∃ fr, w.heap[g]? = some (.cells (c8 N).toArray 5 fr)) ∨ O8 B w v l
theorem Nt.form {B g : Nat} {N : Bs} {w : World} {v : Value} {l : Bs} (h : Nt B g N w v l) : ∃ p k, v = .slice p l.length k := by
  rcases h with ⟨rfl, rfl, _⟩ | h
  · exact ⟨_, _, rfl⟩
  · exact h.form
theorem nt_app {B g : Nat} {N : Bs} {w : World} {v : Value} {l : Bs} (h : Nt B g N w v l) (hB : B ≤ w.heap.size) (hl : l.length ≤ 1000000) (c : UInt8) (ty : TypeId) :
    ∃ v' w', (Builtin.append_ #[22, 22] ty #[v, .slice (some ⟨w.heap.size, 0, none⟩) 1 1]).run Tryd.prog (w.alloc (.cells #[.int .u8 c.toNat] 5)) = .ok v' w' ∧ O8 B w' v' (l ++ [c]) ∧ Below B w w' := by
  have hB' : B ≤ (w.alloc (.cells #[.int .u8 c.toNat] 5)).heap.size := by simp; omega
  have hb1 : Below B w (w.alloc (.cells #[.int .u8 c.toNat] 5)) := (Below.refl _ _).alloc hB _
  have hc : c8 [c] = [.int .u8 c.toNat] := rfl
  rcases h with ⟨rfl, rfl, fr, hg⟩ | h
  · obtain ⟨i, hi, hzz⟩ := Option.map_eq_some_iff.1 infoU8L
    simp only [Prod.mk.injEq] at hzz
    obtain ⟨hz, hsz, hb⟩ := hzz
    have hgl : g < w.heap.size := (Array.getElem?_eq_some_iff.1 hg).1
    obtain ⟨v', w', hrun, r1, r2⟩ := run_append_arg_grows (P := Tryd.prog) (w.alloc (.cells #[.int .u8 c.toNat] 5)) 22 ty 5 i (.int .u8 0) 1 1 Tryd.underlying22 hi hz hsz hb rfl (by decide)
      ⟨g, 0, none⟩ l.length l.length (c8 l) (by rw [c8_len]; omega) (fun j u hu => by
        rw [Addr.add_lit]
        have e : (w.alloc (.cells #[.int .u8 c.toNat] 5)).heap[g]? = some (.cells (c8 l).toArray 5 fr) := (Below.heap_alloc _ _ _ hgl).trans hg
        rw [Nat.zero_add, cell_of_row _ g j _ _ _ e]
        simpa using hu)
      ⟨w.heap.size, 0, none⟩ 1 1 [.int .u8 c.toNat] rfl (fun j u hu => by rw [Addr.add_lit, Nat.zero_add, cell_of_row _ w.heap.size j _ _ _ (heap_alloc_new w _)]; simpa using hu) (by omega) (by unfold maxLen; omega) (by omega)
    refine ⟨v', w', hrun, ?_, hb1.trans (Below.grown (Below.refl B _) r2 hB' (fun q hq => by cases hq))⟩
    unfold O8
    rw [c8_app, List.length_append, hc]
    exact World.ownsRow.mono r1 hB'
  · obtain ⟨v', w', hrun, hap⟩ := run_app (P := Tryd.prog) (w := w.alloc (.cells #[.int .u8 c.toNat] 5)) (base := B) (ty := ty) (t := 22) (v := v) (x := .slice (some ⟨w.heap.size, 0, none⟩) 1 1) Tryd.underlying22 infoU8L rfl (h.alloc _) (src_oneL rfl) (by simp [Value.oneCell']) (by unfold maxLen; omega) (by omega) hB'
    refine ⟨v', w', hrun, ?_, hb1.trans (hap.below hB' fun q hq => (owns_lt h hq).1)⟩
    have h1 := hap.own
    unfold O8
    rw [c8_app, List.length_append, hc]
    exact h1
theorem wpList_appR {P : Program} {ops : Array Oper} {rest : List Oper} {o : Oper} {a : Act} {w : World} {Q : Exit → Act → World → Prop} {t t2 : TypeId} {v x : Value} (hgd : o.guard = none) (s y : Operand) (ho : o.op = .call { callee := .builtin .append, args := #[s, y], argTypes := #[t, t2] })
    (hv : a.eval s = v) (hx : a.eval y = x) {R : Value → World → Prop} (hr : ∃ v' w', (Builtin.append_ #[t, t2] o.type #[v, x]).run P w = .ok v' w' ∧ R v' w')
    (h : ∀ v' w', R v' w' → wpList P ops Q rest (a.put o.dst v') w') : wpList P ops Q (o :: rest) a w := by
  obtain ⟨v', w', hrun, h2⟩ := hr
  refine wpList_plain hgd fun K hK => ?_
  unfold Oper.wp
  simp [execOp, ho, resolve, invoke, builtin, hv, hx, hrun, Result.andThen]
  exact hK _ _ (h v' w' h2)
/-- A whole row, appended. -/
theorem o8_app {B : Nat} {w : World} {v x : Value} {l m : Bs} (h : O8 B w v l) (hs : R8 w x m) (hB : B ≤ w.heap.size) (hl : l.length + m.length ≤ 140737488355328) (ty : TypeId) :
    ∃ v' w', (Builtin.append_ #[22, 22] ty #[v, x]).run Tryd.prog w = .ok v' w' ∧ O8 B w' v' (l ++ m) ∧ Below B w w' := by
  obtain ⟨v', w', hrun, hap⟩ := run_app (P := Tryd.prog) (w := w) (base := B) (ty := ty) (t := 22) (v := v) (x := x) Tryd.underlying22 infoU8L rfl h hs.src (c8_one m) (by unfold maxLen; omega) (by omega) hB
  refine ⟨v', w', hrun, ?_, hap.below hB fun q hq => (owns_lt h hq).1⟩
  have h1 := hap.own
  unfold O8
  rw [c8_app, List.length_append]
  exact h1
theorem own_le {w : World} {B : Nat} {e : TypeId} {sz n : Nat} {v : Value} {xs : List Value} (h : w.ownsRow B e sz v n xs) : n ≤ maxLen := by
  rcases h.2 with ⟨_, rfl⟩ | ⟨g, cap, cur, _, _, _, h1, h2, _⟩
  · exact Nat.zero_le _
  · omega
theorem LexP.below {W w' : World} {r : Except (Int × Int) (List Tk)} {e : Ending} (h : LexP W r e w') : Below W.heap.size W w' := by
  cases r with
  | error p => exact h.2
  | ok ts => obtain ⟨v, _, _, h3⟩ := h; exact h3
theorem O8.fresh {B : Nat} {w : World} (hB : B ≤ w.heap.size) : O8 B (w.alloc (.cells #[] 5)) (.slice (some ⟨w.heap.size, 0, none⟩) 0 0) [] := World.ownsRow_made w #[] 0 hB (Nat.zero_le _) rfl
end Go.Proofs.YtcjomeghcihecaaDoor
