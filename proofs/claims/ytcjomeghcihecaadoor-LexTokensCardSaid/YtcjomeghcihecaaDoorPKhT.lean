/- A region that draws its order, the plain twin of XKhR: what holds of the world behind every operation lets the loads be taken ahead of all else. -/
import Derived.Test.YtcjomeghcihecaaDoorPKh
import Derived.OrdersHeld
import Derived.Deep.RegionHeld3
namespace Go.Proofs.YtcjomeghcihecaaDoor
open Go Go.RowKit
set_option linter.unusedVariables false
set_option linter.unusedSimpArgs false
section
variable {P : Program} {ops : Array Oper} {Q : Exit → Act → World → Prop} {md : Region.Mode} {S : World → Prop} 
/-- The operations below n come up in whatever order, S holds behind each; then L. -/
def anyU (P : Program) (md : Region.Mode) (ops : Array Oper) (Q : Exit → Act → World → Prop) (S : World → Prop) (n : Nat) (L : Array Bool → Act → World → Prop) : Nat → Array Bool → Act → World → Prop
  | 0, done, a, w => L done a w
  | m + 1, done, a, w => Region.ready md ops done ≠ [] ∧ ∀ i ∈ Region.ready md ops done, i < n ∧ wpOpIn Fence.wide 0 P ops Q i (fun a' w' => S w' ∧ anyU P md ops Q S n L m (done.setIfInBounds i true) a' w') a w
theorem any_of_anyU {n g : Nat} {L : Array Bool → Act → World → Prop} (hL : ∀ done a w, L done a w → wpAnyIn Fence.wide 0 P md ops Q g done a w) : ∀ (m : Nat) (done : Array Bool) (a : Act) (w : World), anyU P md ops Q S n L m done a w → wpAnyIn Fence.wide 0 P md ops Q (m + g) done a w
  | 0, done, a, w, h => by rw [Nat.zero_add]; exact hL _ _ _ h
  | m + 1, done, a, w, h => by
    rw [show m + 1 + g = (m + g) + 1 by omega]
    exact ⟨fun h0 => absurd h0 h.1, fun i hi => wpOpIn_mono (fun a' w' h' => any_of_anyU hL m _ a' w' h'.2) (h.2 i hi).2⟩
theorem yields_opU (hd : noDefer ops = true) {i : Nat} {o : Oper} {v : Value} {a : Act} (hi : ops[i]? = some o) (hy : YieldsIf P ops S o v a) {K : Act → World → Prop} {w : World} (hS : S w) (h : K (a.put o.dst v) w) : wpOpIn Fence.wide 0 P ops Q i K a w := by
  unfold wpOpIn
  simp only [hi]
  rcases hy with ⟨hw, hv⟩ | ⟨hw, rfl⟩
  · rw [if_pos hw]
    refine ⟨fun _ _ => trivial, ?_⟩
    rw [Fence.wide_round, Oper.semAt_none, hv w hS]
    exact h
  · rw [if_neg (by rw [hw]; simp)]
    exact ⟨fun _ _ => trivial, h⟩
theorem op_besideU (hd : noDefer ops = true) {j : Nat} {oi oj : Oper} {v : Value} (hj : ops[j]? = some oj) (hap : oi.apart ops oj = true) (hsi : ∀ cs b, oi.op ≠ .select cs b) (hsj : ∀ cs b, oj.op ≠ .select cs b)
    (hQ : ∀ c a w, Q (.panic c) (a.put oi.dst v) w → Q (.panic c) a w) {K : Act → World → Prop} {a : Act} {w : World} (hy : YieldsIf P ops S oi v a) (h : wpOpIn Fence.wide 0 P ops Q j K (a.put oi.dst v) w) :
    wpOpIn Fence.wide 0 P ops Q j (fun a' w' => YieldsIf P ops S oi v a' ∧ K (a'.put oi.dst v) w') a w := by
  obtain ⟨h1, h2, h3⟩ := Oper.apart_spec hap
  have hnd := noDefer_at hd hj
  have stay : ∀ (b : Act), YieldsIf P ops S oi v b → ∀ u, YieldsIf P ops S oi v (b.put oj.dst u) := fun b hb u =>
    hb.of_same (execOp_put oi hsi b oj.dst u h3) (wanted_put oi b oj.dst u h3)
  unfold wpOpIn at *
  simp only [hj] at *
  rw [wanted_put oj a oi.dst v h1] at h
  split
  · rename_i hw
    rw [if_pos hw] at h
    refine ⟨fun _ _ => trivial, ?_⟩
    have h := h.2
    rw [Fence.wide_round, Oper.semAt_none, execOp_put oj hsj a oi.dst v h1] at h
    rw [Fence.wide_round, Oper.semAt_none]
    generalize (execOp a.eval oj).run P w = r at *
    cases r with
    | ok x w' =>
      cases x <;> simp only [Oper.uponIn] at h ⊢
      case value u => exact ⟨stay a hy u, by rw [← Act.put_comm a v u h2]; exact h⟩
      case skip => exact ⟨stay a hy _, by rw [← Act.put_comm a v undef h2]; exact h⟩
      case defer d =>
        refine ⟨stay { a with defers := d :: a.defers } (hy.of_same rfl rfl) _, ?_⟩
        rw [← Act.put_comm _ v undef h2, ← Act.put_defers]
        exact h
      case enter f args =>
        refine ⟨h.1, CallsIn.mono h.2 fun e w'' he => ?_⟩
        cases e with
        | returned u => exact ⟨stay a hy u, by rw [← Act.put_comm a v u h2]; exact he⟩
        | panicked c => exact hQ _ _ _ he
        | outgrown => exact he
      case row row args => exact ⟨h.1, RowsIn.mono h.2 fun u w'' he => ⟨stay a hy u, by rw [← Act.put_comm a v u h2]; exact he⟩⟩
      case round l f tmps assign body =>
        refine ⟨h.1, RoundIn.mono h.2 fun e w'' he => ?_⟩
        cases e with
        | returned u => exact ⟨stay a hy u, by rw [← Act.put_comm a v u h2]; exact he⟩
        | panicked c => exact hQ _ _ _ he
        | outgrown => exact he
    | halt x w' =>
      cases x <;> simp only [Oper.uponIn] at h ⊢
      case panic u => exact hQ _ _ _ h
  · rename_i hw
    rw [if_neg hw] at h
    exact ⟨fun _ _ => trivial, stay a hy _, by rw [← Act.put_comm a v undef h2]; exact h.2⟩
theorem anyU_first (hd : noDefer ops = true) {i n : Nat} {oi : Oper} {v : Value} {L : Array Bool → Act → World → Prop} (hi : ops[i]? = some oi) (hsel : ∀ (j : Nat) (o : Oper) cs b, ops[j]? = some o → o.op ≠ .select cs b)
    (hs : Region.sinkB md ops n = true) (hc : Region.chainB md ops n = true) (hn : n < ops.size) (hin : i < n) (hdone : ∀ done a w, L done a w → ∀ j ∈ Region.ready md ops done, n ≤ j) (hQ : ∀ c a w, Q (.panic c) (a.put oi.dst v) w → Q (.panic c) a w) :
    ∀ (m : Nat) (done : Array Bool) (a : Act) (w : World), HeadInv md ops n done →
      (∀ j oj, ops[j]? = some oj → j ≠ i → done.getD j true = false → (∀ e ∈ oj.after, Region.binds md e = true → e.on ≠ i) → oi.apart ops oj = true) →
      i ∈ Region.ready md ops done → YieldsIf P ops S oi v a → S w → anyU P md ops Q S n L m (done.setIfInBounds i true) (a.put oi.dst v) w → anyU P md ops Q S n L (m + 1) done a w
  | 0, done, a, w, inv, hfree, hr, hy, hS, H => by
    have hun := (mem_ready.1 hr).1
    refine ⟨fun h => (by rw [h] at hr; cases hr), fun j hj => ?_⟩
    have hjn : j < n := by
      rcases Nat.lt_or_ge j n with h | h
      · exact h
      · exact absurd hj (tail_waits hs hc hn inv _ i rfl hin hun j h)
    refine ⟨hjn, ?_⟩
    by_cases hji : j = i
    · subst hji; exact yields_opU hd hi hy hS ⟨hS, H⟩
    · have := hdone _ _ _ H j (ready_mono hj hji)
      omega
  | m + 1, done, a, w, inv, hfree, hr, hy, hS, H => by
    have hun := (mem_ready.1 hr).1
    refine ⟨fun h => (by rw [h] at hr; cases hr), fun j hj => ?_⟩
    have hjn : j < n := by
      rcases Nat.lt_or_ge j n with h | h
      · exact h
      · exact absurd hj (tail_waits hs hc hn inv _ i rfl hin hun j h)
    refine ⟨hjn, ?_⟩
    by_cases hji : j = i
    · subst hji; exact yields_opU hd hi hy hS ⟨hS, H⟩
    · have h1 := (H.2 j (ready_mono hj hji)).2
      obtain ⟨hjun, oj, hoj, hall⟩ := mem_ready.1 hj
      have hnot : ∀ e ∈ oj.after, Region.binds md e = true → e.on ≠ i := fun e he hb heq => by
        have h2 := hall e he hb
        rw [heq, getD_both (mem_ready.1 hr).1] at h2
        cases h2
      have h2 := op_besideU hd hoj (hfree j oj hoj hji hjun hnot) (fun cs b => hsel i oi cs b hi) (fun cs b => hsel j oj cs b hoj) hQ hy h1
      refine wpOpIn_mono (fun a' w' h3 => ⟨h3.2.1, anyU_first hd hi hsel hs hc hn hin hdone hQ m (done.setIfInBounds j true) a' w' (inv.set hj hjn) (fun k ok hk hki hun hno => ?_) (ready_mono hr (Ne.symm hji)) h3.1 h3.2.1 ?_⟩) h2
      · refine hfree k ok hk hki ?_ hno
        by_cases hjk : j = k
        · subst hjk; exact hjun
        · rw [getD_set_ne true hjk] at hun; exact hun
      · rw [Array.setIfInBounds_comm _ _ hji]
        exact h3.2.2
/-- What is put behind the operations that may come up in any order: the rest, one behind the other. -/
def restU (P : Program) (md : Region.Mode) (ops : Array Oper) (Q : Exit → Act → World → Prop) (n : Nat) (rest : List Oper) (done : Array Bool) (a : Act) (w : World) : Prop :=
  Region.seqB md ops (ops.size - n) n done = true ∧ wpListIn Fence.wide 0 P ops Q rest a w
structure HeadOkU (ops : Array Oper) (n : Nat) : Prop where
  nd : noDefer ops = true
  ns : Region.noSelect ops = true
  sink : Region.sinkB .any ops n = true
  chain : Region.chainB .any ops n = true
  lt : n < ops.size
theorem anyU_take {n : Nat} {rest : List Oper} (hh : HeadOkU ops n) {i : Nat} {oi : Oper} {v : Value} {m : Nat} {done : Array Bool} {a : Act} {w : World} (inv : HeadInv .any ops n done) (hi : ops[i]? = some oi) (hin : i < n) (hf : Region.free .any ops done i = true) (hr : (Region.ready .any ops done).contains i = true)
    (hQ : ∀ c a w, Q (.panic c) (a.put oi.dst v) w → Q (.panic c) a w) (hy : YieldsIf P ops S oi v a) (hS : S w) (h : HeadInv .any ops n (done.setIfInBounds i true) → anyU P .any ops Q S n (restU P .any ops Q n rest) m (done.setIfInBounds i true) (a.put oi.dst v) w) : anyU P .any ops Q S n (restU P .any ops Q n rest) (m + 1) done a w := by
  have hr' : i ∈ Region.ready .any ops done := by simpa using hr
  exact anyU_first hh.nd hi (Region.noSelect_spec hh.ns) hh.sink hh.chain hh.lt hin (fun done a w hL => seqB_ready hL.1) hQ m done a w inv (Region.free_spec hi hf) hr' hy hS (h (inv.set hr' hin))
theorem anyU_one {n : Nat} {rest : List Oper} {i : Nat} {o : Oper} {m : Nat} {done : Array Bool} {a : Act} {w : World} (inv : HeadInv .any ops n done) (ho : ops[i]? = some o) (hg : o.guard = none) (hr : Region.ready .any ops done = [i]) (hin : i < n)
    (h : HeadInv .any ops n (done.setIfInBounds i true) → ∀ K : Act → World → Prop, Shut (∀ a' w', S w' → (S w' → anyU P .any ops Q S n (restU P .any ops Q n rest) m (done.setIfInBounds i true) a' w') → K a' w') → o.wpIn Fence.wide 0 P a w K Q) : anyU P .any ops Q S n (restU P .any ops Q n rest) (m + 1) done a w := by
  refine ⟨fun h0 => (by rw [hr] at h0; cases h0), fun j hj => ?_⟩
  have hj' := hj
  rw [hr] at hj
  obtain rfl : j = i := by simpa using hj
  refine ⟨hin, ?_⟩
  unfold wpOpIn
  rw [ho]
  simp only [Region.wanted, hg, if_true]
  exact h (inv.set hj' hin) _ fun a' w' h1 h2 => ⟨h1, h2 h1⟩
theorem wpIn_region_anyU {id : Nat} {a : Act} {w : World} {L : List Oper} (n : Nat) (hm : P.follows .mixedOrders = true) (hh : HeadOkU L.toArray n) (hS : S w.drew)
    (h : HeadOkU L.toArray n → HeadInv .any L.toArray n (Array.replicate L.toArray.size false) → S w.drew → anyU P .any L.toArray Q S n (restU P .any L.toArray Q n (L.drop n)) n (Array.replicate L.toArray.size false) a w.drew) : (Code.region id L.toArray true).wpIn Fence.wide 0 P Q a w := by
  have inv0 : HeadInv .any L.toArray n (Array.replicate L.toArray.size false) :=
    ⟨by simp, fun j oj _ hl => (by rw [getD_replicate_false] at hl; cases hl), fun t _ ht => getD_in (by simpa using ht) (getD_replicate_false _ _)⟩
  have hdl : (L.drop n).length = L.toArray.size - n := by simp
  have hn := hh.lt
  refine wpIn_region_any hm ?_
  have := any_of_anyU (P := P) (md := .any) (ops := L.toArray) (Q := Q) (S := S) (n := n) (g := L.toArray.size - n) (L := restU P .any L.toArray Q n (L.drop n)) (fun done a w hL => by
    have := wpAnyIn_of_seq (md := .any) (F := Fence.wide) (Q' := Q) (L.drop n) n done a w (fun j => by simp [List.getElem?_drop]) (by rw [hdl]; exact hL.1) hL.2
    rwa [hdl] at this) n _ _ _ (h hh inv0 hS)
  rw [show n + (L.toArray.size - n) = L.toArray.size by omega] at this
  exact this
theorem wp_region_anyU {id : Nat} {a : Act} {w : World} {L : List Oper} (n : Nat) (hm : P.follows .mixedOrders = true) (hh : HeadOkU L.toArray n) (hS : S w.drew)
    (h : HeadOkU L.toArray n → HeadInv .any L.toArray n (Array.replicate L.toArray.size false) → S w.drew → anyU P .any L.toArray Q S n (restU P .any L.toArray Q n (L.drop n)) n (Array.replicate L.toArray.size false) a w.drew) : (Code.region id L.toArray true).wp P Q a w :=
  (wpIn_wide (n := 0)).1 (wpIn_region_anyU n hm hh hS h)
end
end Go.Proofs.YtcjomeghcihecaaDoor
