/- Layer 10: the region that lays the looker out: its operations come up in whatever order. -/
import Derived.Test.YtnniohimbmnapaaDoorLk2
import Derived.BigRegion
namespace Go.Proofs.YtnniohimbmnapaaDoor
open Go Go.RowKit
set_option linter.unusedVariables false
set_option linter.unusedSimpArgs false
def cn (b : Bool) : Nat := if b then 0 else 1
theorem cn_true {b : Bool} (h : cn b = 0) : b = true := by
  cases b with
  | false => simp [cn] at h
  | true => rfl
theorem op_want {P : Program} {ops : Array Oper} {Q : Exit → Act → World → Prop} {i : Nat} {o : Oper} {a : Act} {w : World} {K : Act → World → Prop} (ho : ops[i]? = some o) (hw : Region.wanted o (yielded ops a.tmps) = true)
    (h : ∀ K' : Act → World → Prop, (∀ a w, K a w → K' a w) → Oper.wp P o a w K' Q) : wpOp P ops Q i K a w := by
  unfold wpOp
  simp only [ho]
  rw [if_pos hw]
  exact .inl (h K fun _ _ h => h)
/-- What holds behind every operation, whatever has come up. -/
theorem any9 {P : Program} {ops : Array Oper} {Q : Exit → Act → World → Prop} (I : Bool → Bool → Bool → Bool → Bool → Bool → Bool → Bool → Bool → Act → World → Prop)
    (hf : ∀ d0 d2 d4 d6 d8 d9 d10 d11 d12 : Bool, ∀ i ∈ Region.ready .any ops #[d0, true, d2, true, d4, true, d6, true, d8, d9, d10, d11, d12], (i = 0 ∧ d0 = false) ∨ (i = 2 ∧ d2 = false) ∨ (i = 4 ∧ d4 = false) ∨ (i = 6 ∧ d6 = false) ∨ (i = 8 ∧ d8 = false) ∨ (i = 9 ∧ d9 = false ∧ d0 = true ∧ d2 = true ∧ d4 = true ∧ d6 = true ∧ d8 = true) ∨ (i = 10 ∧ d10 = false ∧ d9 = true) ∨ (i = 11 ∧ d11 = false) ∨ (i = 12 ∧ d12 = false ∧ d10 = true ∧ d11 = true))
    (he : ∀ d0 d2 d4 d6 d8 d9 d10 d11 d12 : Bool, Region.ready .any ops #[d0, true, d2, true, d4, true, d6, true, d8, d9, d10, d11, d12] = [] → d0 = true ∧ d2 = true ∧ d4 = true ∧ d6 = true ∧ d8 = true ∧ d9 = true ∧ d10 = true ∧ d11 = true ∧ d12 = true)
    (h0 : ∀ (d2 d4 d6 d8 d9 d10 d11 d12 : Bool) (a : Act) (w : World), I false d2 d4 d6 d8 d9 d10 d11 d12 a w → wpOp P ops Q 0 (I true d2 d4 d6 d8 d9 d10 d11 d12) a w)
    (h2 : ∀ (d0 d4 d6 d8 d9 d10 d11 d12 : Bool) (a : Act) (w : World), I d0 false d4 d6 d8 d9 d10 d11 d12 a w → wpOp P ops Q 2 (I d0 true d4 d6 d8 d9 d10 d11 d12) a w)
    (h4 : ∀ (d0 d2 d6 d8 d9 d10 d11 d12 : Bool) (a : Act) (w : World), I d0 d2 false d6 d8 d9 d10 d11 d12 a w → wpOp P ops Q 4 (I d0 d2 true d6 d8 d9 d10 d11 d12) a w)
    (h6 : ∀ (d0 d2 d4 d8 d9 d10 d11 d12 : Bool) (a : Act) (w : World), I d0 d2 d4 false d8 d9 d10 d11 d12 a w → wpOp P ops Q 6 (I d0 d2 d4 true d8 d9 d10 d11 d12) a w)
    (h8 : ∀ (d0 d2 d4 d6 d9 d10 d11 d12 : Bool) (a : Act) (w : World), I d0 d2 d4 d6 false d9 d10 d11 d12 a w → wpOp P ops Q 8 (I d0 d2 d4 d6 true d9 d10 d11 d12) a w)
    (h9 : ∀ (d10 d11 d12 : Bool) (a : Act) (w : World), I true true true true true false d10 d11 d12 a w → wpOp P ops Q 9 (I true true true true true true d10 d11 d12) a w)
    (h10 : ∀ (d0 d2 d4 d6 d8 d11 d12 : Bool) (a : Act) (w : World), I d0 d2 d4 d6 d8 true false d11 d12 a w → wpOp P ops Q 10 (I d0 d2 d4 d6 d8 true true d11 d12) a w)
    (h11 : ∀ (d0 d2 d4 d6 d8 d9 d10 d12 : Bool) (a : Act) (w : World), I d0 d2 d4 d6 d8 d9 d10 false d12 a w → wpOp P ops Q 11 (I d0 d2 d4 d6 d8 d9 d10 true d12) a w)
    (h12 : ∀ (d0 d2 d4 d6 d8 d9 : Bool) (a : Act) (w : World), I d0 d2 d4 d6 d8 d9 true true false a w → wpOp P ops Q 12 (I d0 d2 d4 d6 d8 d9 true true true) a w)
    (hend : ∀ a w, I true true true true true true true true true a w → Q .normal a w) :
    ∀ (fuel : Nat) (d0 d2 d4 d6 d8 d9 d10 d11 d12 : Bool) (a : Act) (w : World), cn d0 + cn d2 + cn d4 + cn d6 + cn d8 + cn d9 + cn d10 + cn d11 + cn d12 ≤ fuel → I d0 d2 d4 d6 d8 d9 d10 d11 d12 a w → wpAny P .any ops Q fuel #[d0, true, d2, true, d4, true, d6, true, d8, d9, d10, d11, d12] a w := by
  intro fuel
  induction fuel with
  | zero =>
    intro d0 d2 d4 d6 d8 d9 d10 d11 d12 a w hc hi
    have ed0 := cn_true (b := d0) (by omega)
    have ed2 := cn_true (b := d2) (by omega)
    have ed4 := cn_true (b := d4) (by omega)
    have ed6 := cn_true (b := d6) (by omega)
    have ed8 := cn_true (b := d8) (by omega)
    have ed9 := cn_true (b := d9) (by omega)
    have ed10 := cn_true (b := d10) (by omega)
    have ed11 := cn_true (b := d11) (by omega)
    have ed12 := cn_true (b := d12) (by omega)
    subst ed0 ed2 ed4 ed6 ed8 ed9 ed10 ed11 ed12
    refine ⟨List.eq_nil_iff_forall_not_mem.2 fun i hi' => ?_, hend _ _ hi⟩
    rcases hf _ _ _ _ _ _ _ _ _ i hi' with ⟨_, h⟩ | ⟨_, h⟩ | ⟨_, h⟩ | ⟨_, h⟩ | ⟨_, h⟩ | ⟨_, h, _, _, _, _, _⟩ | ⟨_, h, _⟩ | ⟨_, h⟩ | ⟨_, h, _, _⟩ <;> cases h
  | succ fuel ih =>
    intro d0 d2 d4 d6 d8 d9 d10 d11 d12 a w hc hi
    refine ⟨fun hr => ?_, fun i hi' => ?_⟩
    · obtain ⟨rfl, rfl, rfl, rfl, rfl, rfl, rfl, rfl, rfl⟩ := he _ _ _ _ _ _ _ _ _ hr
      exact hend _ _ hi
    · rcases hf _ _ _ _ _ _ _ _ _ i hi' with ⟨rfl, rfl⟩ | ⟨rfl, rfl⟩ | ⟨rfl, rfl⟩ | ⟨rfl, rfl⟩ | ⟨rfl, rfl⟩ | ⟨rfl, rfl, rfl, rfl, rfl, rfl, rfl⟩ | ⟨rfl, rfl, rfl⟩ | ⟨rfl, rfl⟩ | ⟨rfl, rfl, rfl, rfl⟩
      · exact wpOp_mono (fun a w h => ih true d2 d4 d6 d8 d9 d10 d11 d12 a w (by simp only [cn, if_true, Bool.false_eq_true, if_false] at hc ⊢; omega) h) (h0 d2 d4 d6 d8 d9 d10 d11 d12 a w hi)
      · exact wpOp_mono (fun a w h => ih d0 true d4 d6 d8 d9 d10 d11 d12 a w (by simp only [cn, if_true, Bool.false_eq_true, if_false] at hc ⊢; omega) h) (h2 d0 d4 d6 d8 d9 d10 d11 d12 a w hi)
      · exact wpOp_mono (fun a w h => ih d0 d2 true d6 d8 d9 d10 d11 d12 a w (by simp only [cn, if_true, Bool.false_eq_true, if_false] at hc ⊢; omega) h) (h4 d0 d2 d6 d8 d9 d10 d11 d12 a w hi)
      · exact wpOp_mono (fun a w h => ih d0 d2 d4 true d8 d9 d10 d11 d12 a w (by simp only [cn, if_true, Bool.false_eq_true, if_false] at hc ⊢; omega) h) (h6 d0 d2 d4 d8 d9 d10 d11 d12 a w hi)
      · exact wpOp_mono (fun a w h => ih d0 d2 d4 d6 true d9 d10 d11 d12 a w (by simp only [cn, if_true, Bool.false_eq_true, if_false] at hc ⊢; omega) h) (h8 d0 d2 d4 d6 d9 d10 d11 d12 a w hi)
      · exact wpOp_mono (fun a w h => ih true true true true true true d10 d11 d12 a w (by simp only [cn, if_true, Bool.false_eq_true, if_false] at hc ⊢; omega) h) (h9 d10 d11 d12 a w hi)
      · exact wpOp_mono (fun a w h => ih d0 d2 d4 d6 d8 true true d11 d12 a w (by simp only [cn, if_true, Bool.false_eq_true, if_false] at hc ⊢; omega) h) (h10 d0 d2 d4 d6 d8 d11 d12 a w hi)
      · exact wpOp_mono (fun a w h => ih d0 d2 d4 d6 d8 d9 d10 true d12 a w (by simp only [cn, if_true, Bool.false_eq_true, if_false] at hc ⊢; omega) h) (h11 d0 d2 d4 d6 d8 d9 d10 d12 a w hi)
      · exact wpOp_mono (fun a w h => ih d0 d2 d4 d6 d8 d9 true true true a w (by simp only [cn, if_true, Bool.false_eq_true, if_false] at hc ⊢; omega) h) (h12 d0 d2 d4 d6 d8 d9 a w hi)
def allB (f : Bool → Bool) : Bool := f true && f false
theorem allB_spec {f : Bool → Bool} (h : allB f = true) (b : Bool) : f b = true := by
  unfold allB at h
  rw [Bool.and_eq_true] at h
  cases b
  · exact h.2
  · exact h.1
theorem hf_of {ops : Array Oper} (h : (allB fun d0 => allB fun d2 => allB fun d4 => allB fun d6 => allB fun d8 => allB fun d9 => allB fun d10 => allB fun d11 => allB fun d12 => (Region.ready .any ops #[d0, true, d2, true, d4, true, d6, true, d8, d9, d10, d11, d12]).all fun i => ((i == 0 && (!d0)) || ((i == 2 && (!d2)) || ((i == 4 && (!d4)) || ((i == 6 && (!d6)) || ((i == 8 && (!d8)) || ((i == 9 && (!d9 && (d0 && (d2 && (d4 && (d6 && (d8))))))) || ((i == 10 && (!d10 && (d9))) || ((i == 11 && (!d11)) || (i == 12 && (!d12 && (d10 && (d11))))))))))))) = true) : ∀ d0 d2 d4 d6 d8 d9 d10 d11 d12 : Bool, ∀ i ∈ Region.ready .any ops #[d0, true, d2, true, d4, true, d6, true, d8, d9, d10, d11, d12], (i = 0 ∧ d0 = false) ∨ (i = 2 ∧ d2 = false) ∨ (i = 4 ∧ d4 = false) ∨ (i = 6 ∧ d6 = false) ∨ (i = 8 ∧ d8 = false) ∨ (i = 9 ∧ d9 = false ∧ d0 = true ∧ d2 = true ∧ d4 = true ∧ d6 = true ∧ d8 = true) ∨ (i = 10 ∧ d10 = false ∧ d9 = true) ∨ (i = 11 ∧ d11 = false) ∨ (i = 12 ∧ d12 = false ∧ d10 = true ∧ d11 = true) := by
  intro d0 d2 d4 d6 d8 d9 d10 d11 d12 i hi
  have h2 := List.all_eq_true.1 (allB_spec (allB_spec (allB_spec (allB_spec (allB_spec (allB_spec (allB_spec (allB_spec (allB_spec (h) d0) d2) d4) d6) d8) d9) d10) d11) d12) i hi
  simpa only [Bool.or_eq_true, Bool.and_eq_true, beq_iff_eq, Bool.not_eq_true'] using h2
theorem he_of {ops : Array Oper} (h : (allB fun d0 => allB fun d2 => allB fun d4 => allB fun d6 => allB fun d8 => allB fun d9 => allB fun d10 => allB fun d11 => allB fun d12 => (!(Region.ready .any ops #[d0, true, d2, true, d4, true, d6, true, d8, d9, d10, d11, d12]).isEmpty) || (d0 && (d2 && (d4 && (d6 && (d8 && (d9 && (d10 && (d11 && d12))))))))) = true) : ∀ d0 d2 d4 d6 d8 d9 d10 d11 d12 : Bool, Region.ready .any ops #[d0, true, d2, true, d4, true, d6, true, d8, d9, d10, d11, d12] = [] → d0 = true ∧ d2 = true ∧ d4 = true ∧ d6 = true ∧ d8 = true ∧ d9 = true ∧ d10 = true ∧ d11 = true ∧ d12 = true := by
  intro d0 d2 d4 d6 d8 d9 d10 d11 d12 hr
  have h2 := allB_spec (allB_spec (allB_spec (allB_spec (allB_spec (allB_spec (allB_spec (allB_spec (allB_spec (h) d0) d2) d4) d6) d8) d9) d10) d11) d12
  rw [hr] at h2
  simpa only [List.isEmpty_nil, Bool.not_true, Bool.false_or, Bool.and_eq_true] using h2
theorem wp_monoQ {P : Program} {o : Oper} {a : Act} {w : World} {K : Act → World → Prop} {Q Q' : Exit → Act → World → Prop} (h : ∀ e a w, Q' e a w → Q e a w) (hh : o.wp P a w K Q') : o.wp P a w K Q := by
  have hl : LetsOut Q' → LetsOut Q := fun ⟨a, w, h'⟩ => ⟨a, w, h _ _ _ h'⟩
  unfold Oper.wp at *
  generalize (execOp a.eval o).run P w = r at *
  cases r with
  | ok n w' =>
    cases n <;> simp only [Oper.upon] at hh ⊢ <;>
      first
        | exact hh
        | exact Calls.mono hh (fun e w'' he => by cases e <;> first | exact he | exact h _ _ _ he | exact hl he)
  | halt x w' => cases x <;> simp only [Oper.upon] at hh ⊢ <;> first | exact hh | exact h _ _ _ hh
theorem any_monoQ {P : Program} {md : Region.Mode} {ops : Array Oper} {Q Q' : Exit → Act → World → Prop} (h : ∀ e a w, Q' e a w → Q e a w) : ∀ (fuel : Nat) (done : Array Bool) (a : Act) (w : World), wpAny P md ops Q' fuel done a w → wpAny P md ops Q fuel done a w
  | 0, _, _, _, hh => ⟨hh.1, h _ _ _ hh.2⟩
  | fuel + 1, _, a, w, hh => ⟨fun hr => h _ _ _ (hh.1 hr), fun i hi => by
      have h2 := wpOp_mono (fun a w h' => any_monoQ h fuel _ a w h') (hh.2 i hi)
      unfold wpOp at h2 ⊢
      cases ho : ops[i]? with
      | none => simpa only [ho] using h2
      | some o =>
        simp only [ho] at h2 ⊢
        split
        · rename_i hw
          rw [if_pos hw] at h2
          exact h2.imp (wp_monoQ h) fun ⟨h3, a, w, h4⟩ => ⟨h3, a, w, h _ _ _ h4⟩
        · rename_i hw
          rw [if_neg hw] at h2
          exact h2⟩
/-- A region that ends well may be walked as if nothing looked at its panics. -/
def OnlyN (Q : Exit → Act → World → Prop) : Exit → Act → World → Prop
  | .normal, a, w => Q .normal a w
  | _, _, _ => False
theorem any_only {P : Program} {md : Region.Mode} {ops : Array Oper} {Q : Exit → Act → World → Prop} {fuel : Nat} {done : Array Bool} {a : Act} {w : World} (h : wpAny P md ops (OnlyN Q) fuel done a w) : wpAny P md ops Q fuel done a w :=
  any_monoQ (fun e a w h => by cases e <;> first | exact h | exact h.elim) fuel done a w h
/-- A row that may have come up. -/
def RowAt (d : Bool) (v : Value) (n : Nat) (z : Value) (T : TypeId) (S : Nat) (W : World) : Prop := d = true → ∃ b, v = .slice (some ⟨b, 0, none⟩) n n ∧ S ≤ b ∧ Blk W b (List.replicate n z) T
theorem Blk.al {W : World} {b : Nat} {cs : List Value} {T : TypeId} (h : Blk W b cs T) (o : Obj) : Blk (W.alloc o) b cs T := h.block (Below.heap_alloc _ _ _ h.lt)
theorem RowAt.al {d : Bool} {v : Value} {n : Nat} {z : Value} {T : TypeId} {S : Nat} {W : World} (h : RowAt d v n z T S W) (o : Obj) : RowAt d v n z T S (W.alloc o) := fun e => by
  obtain ⟨b, h1, h2, h3⟩ := h e
  exact ⟨b, h1, h2, h3.al o⟩
theorem RowAt.new {d : Bool} {n : Nat} {z : Value} {T : TypeId} {S : Nat} {W : World} (hS : S ≤ W.heap.size) : RowAt d (.slice (some ⟨W.heap.size, 0, none⟩) n n) n z T S (W.alloc (.cells (List.replicate n z).toArray T)) := fun _ => ⟨_, rfl, hS, Blk.new W _ T⟩
theorem RowAt.new' {d : Bool} {n : Nat} {z : Value} {T : TypeId} {S : Nat} {W : World} (hS : S ≤ W.heap.size) : RowAt d (.slice (some ⟨W.heap.size, 0, none⟩) n n) n z T S (W.alloc (.cells (Array.replicate n z) T)) := by
  have h := RowAt.new (d := d) (n := n) (z := z) (T := T) hS
  rwa [List.toArray_replicate] at h
/-- A block that may have come up. -/
def BlkAt (d : Bool) (v : Value) (cs : List Value) (T : TypeId) (S : Nat) (W : World) : Prop := d = true → ∃ b, v = .pointer (some ⟨b, 0, none⟩) ∧ S ≤ b ∧ Blk W b cs T
theorem BlkAt.al {d : Bool} {v : Value} {cs : List Value} {T : TypeId} {S : Nat} {W : World} (h : BlkAt d v cs T S W) (o : Obj) : BlkAt d v cs T S (W.alloc o) := fun e => by
  obtain ⟨b, h1, h2, h3⟩ := h e
  exact ⟨b, h1, h2, h3.al o⟩
theorem BlkAt.new {d : Bool} {cs : List Value} {T : TypeId} {S : Nat} {W : World} (hS : S ≤ W.heap.size) : BlkAt d (.pointer (some ⟨W.heap.size, 0, none⟩)) cs T S (W.alloc (.cells cs.toArray T)) := fun _ => ⟨_, rfl, hS, Blk.new W _ T⟩
end Go.Proofs.YtnniohimbmnapaaDoor
