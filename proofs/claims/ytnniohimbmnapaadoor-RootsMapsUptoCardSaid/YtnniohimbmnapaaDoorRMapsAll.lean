/- Layers 10 and 12: XKhT, XSpread, XBack, XRefL, XLawLive, XRMaps in one text (a claim holds 60 files at most). -/
import Derived.Test.YtnniohimbmnapaaDoorKh
import Derived.OrdersHeld
import Derived.Deep.RegionHeld3
import Derived.Test.YtnniohimbmnapaaDoorLawPaths
import Derived.Test.YtnniohimbmnapaaDoorMapsR
import Derived.Test.YtnniohimbmnapaaDoorK12
namespace Go.Proofs.YtnniohimbmnapaaDoor
section
open Go Go.RowKit
set_option linter.unusedVariables false
set_option linter.unusedSimpArgs false
section
variable {P : Program} {ops : Array Oper} {Q : Exit → Act → World → Prop} {md : Region.Mode} {S : World → Prop} 
/-- The operations below n come up in whatever order, S holds behind each; then L. -/
def anyU (P : Program) (md : Region.Mode) (ops : Array Oper) (Q : Exit → Act → World → Prop) (S : World → Prop) (n : Nat) (L : Array Bool → Act → World → Prop) : Nat → Array Bool → Act → World → Prop
  | 0, done, a, w => L done a w
  | m + 1, done, a, w => Region.ready md ops done ≠ [] ∧ ∀ i ∈ Region.ready md ops done, i < n ∧ wpOpIn Fence.wide 0 P ops Q i (fun a' w' => S w' ∧ anyU P md ops Q S n L m (done.setIfInBounds i true) a' w') a w
theorem any_of_anyU {n g : Nat} {L : Array Bool → Act → World → Prop} (hL : ∀ done a w, L done a w → wpAnyIn Fence.wide 0 P md ops Q g done a w) : ∀ (m : Nat) (done : Array Bool) (a : Act) (w : World), anyU P md ops Q S n L m done a w → wpAnyIn Fence.wide 0 P md ops Q (m + g) done a w
  | 0, done, a, w, h => by rw [Nat.zero_add]; exact hL _ _ _ h
  | m + 1, done, a, w, h => by
    rw [show m + 1 + g = (m + g) + 1 by omega]
    exact ⟨fun h0 => absurd h0 h.1, fun i hi => wpOpIn_mono (fun a' w' h' => any_of_anyU hL m _ a' w' h'.2) (h.2 i hi).2⟩
theorem yields_opU (hd : noDefer ops = true) {i : Nat} {o : Oper} {v : Value} {a : Act} (hi : ops[i]? = some o) (hy : YieldsIf P ops S o v a) {K : Act → World → Prop} {w : World} (hS : S w) (h : K (a.put o.dst v) w) : wpOpIn Fence.wide 0 P ops Q i K a w := by
  unfold wpOpIn
  simp only [hi]
  rcases hy with ⟨hw, hv⟩ | ⟨hw, rfl⟩
  · rw [if_pos hw]
    refine ⟨fun _ _ => trivial, ?_⟩
    rw [Fence.wide_round, Oper.semAt_none, hv w hS]
    exact h
  · rw [if_neg (by rw [hw]; simp)]
    exact ⟨fun _ _ => trivial, h⟩
theorem op_besideU (hd : noDefer ops = true) {j : Nat} {oi oj : Oper} {v : Value} (hj : ops[j]? = some oj) (hap : oi.apart ops oj = true) (hsi : ∀ cs b, oi.op ≠ .select cs b) (hsj : ∀ cs b, oj.op ≠ .select cs b)
    (hQ : ∀ c a w, Q (.panic c) (a.put oi.dst v) w → Q (.panic c) a w) {K : Act → World → Prop} {a : Act} {w : World} (hy : YieldsIf P ops S oi v a) (h : wpOpIn Fence.wide 0 P ops Q j K (a.put oi.dst v) w) :
    wpOpIn Fence.wide 0 P ops Q j (fun a' w' => YieldsIf P ops S oi v a' ∧ K (a'.put oi.dst v) w') a w := by
  obtain ⟨h1, h2, h3⟩ := Oper.apart_spec hap
  have hnd := noDefer_at hd hj
  have stay : ∀ (b : Act), YieldsIf P ops S oi v b → ∀ u, YieldsIf P ops S oi v (b.put oj.dst u) := fun b hb u =>
    hb.of_same (execOp_put oi hsi b oj.dst u h3) (wanted_put oi b oj.dst u h3)
  unfold wpOpIn at *
  simp only [hj] at *
  rw [wanted_put oj a oi.dst v h1] at h
  split
  · rename_i hw
    rw [if_pos hw] at h
    refine ⟨fun _ _ => trivial, ?_⟩
    have h := h.2
    rw [Fence.wide_round, Oper.semAt_none, execOp_put oj hsj a oi.dst v h1] at h
    rw [Fence.wide_round, Oper.semAt_none]
    generalize (execOp a.eval oj).run P w = r at *
    cases r with
    | ok x w' =>
      cases x <;> simp only [Oper.uponIn] at h ⊢
      case value u => exact ⟨stay a hy u, by rw [← Act.put_comm a v u h2]; exact h⟩
      case skip => exact ⟨stay a hy _, by rw [← Act.put_comm a v undef h2]; exact h⟩
      case defer d =>
        refine ⟨stay { a with defers := d :: a.defers } (hy.of_same rfl rfl) _, ?_⟩
        rw [← Act.put_comm _ v undef h2, ← Act.put_defers]
        exact h
      case enter f args =>
        refine ⟨h.1, CallsIn.mono h.2 fun e w'' he => ?_⟩
        cases e with
        | returned u => exact ⟨stay a hy u, by rw [← Act.put_comm a v u h2]; exact he⟩
        | panicked c => exact hQ _ _ _ he
        | outgrown => exact he
      case row row args => exact ⟨h.1, RowsIn.mono h.2 fun u w'' he => ⟨stay a hy u, by rw [← Act.put_comm a v u h2]; exact he⟩⟩
      case round l f tmps assign body =>
        refine ⟨h.1, RoundIn.mono h.2 fun e w'' he => ?_⟩
        cases e with
        | returned u => exact ⟨stay a hy u, by rw [← Act.put_comm a v u h2]; exact he⟩
        | panicked c => exact hQ _ _ _ he
        | outgrown => exact he
    | halt x w' =>
      cases x <;> simp only [Oper.uponIn] at h ⊢
      case panic u => exact hQ _ _ _ h
  · rename_i hw
    rw [if_neg hw] at h
    exact ⟨fun _ _ => trivial, stay a hy _, by rw [← Act.put_comm a v undef h2]; exact h.2⟩
theorem anyU_first (hd : noDefer ops = true) {i n : Nat} {oi : Oper} {v : Value} {L : Array Bool → Act → World → Prop} (hi : ops[i]? = some oi) (hsel : ∀ (j : Nat) (o : Oper) cs b, ops[j]? = some o → o.op ≠ .select cs b)
    (hs : Region.sinkB md ops n = true) (hc : Region.chainB md ops n = true) (hn : n < ops.size) (hin : i < n) (hdone : ∀ done a w, L done a w → ∀ j ∈ Region.ready md ops done, n ≤ j) (hQ : ∀ c a w, Q (.panic c) (a.put oi.dst v) w → Q (.panic c) a w) :
    ∀ (m : Nat) (done : Array Bool) (a : Act) (w : World), HeadInv md ops n done →
      (∀ j oj, ops[j]? = some oj → j ≠ i → done.getD j true = false → (∀ e ∈ oj.after, Region.binds md e = true → e.on ≠ i) → oi.apart ops oj = true) →
      i ∈ Region.ready md ops done → YieldsIf P ops S oi v a → S w → anyU P md ops Q S n L m (done.setIfInBounds i true) (a.put oi.dst v) w → anyU P md ops Q S n L (m + 1) done a w
  | 0, done, a, w, inv, hfree, hr, hy, hS, H => by
    have hun := (mem_ready.1 hr).1
    refine ⟨fun h => (by rw [h] at hr; cases hr), fun j hj => ?_⟩
    have hjn : j < n := by
      rcases Nat.lt_or_ge j n with h | h
      · exact h
      · exact absurd hj (tail_waits hs hc hn inv _ i rfl hin hun j h)
    refine ⟨hjn, ?_⟩
    by_cases hji : j = i
    · subst hji; exact yields_opU hd hi hy hS ⟨hS, H⟩
    · have := hdone _ _ _ H j (ready_mono hj hji)
      omega
  | m + 1, done, a, w, inv, hfree, hr, hy, hS, H => by
    have hun := (mem_ready.1 hr).1
    refine ⟨fun h => (by rw [h] at hr; cases hr), fun j hj => ?_⟩
    have hjn : j < n := by
      rcases Nat.lt_or_ge j n with h | h
      · exact h
      · exact absurd hj (tail_waits hs hc hn inv _ i rfl hin hun j h)
    refine ⟨hjn, ?_⟩
    by_cases hji : j = i
    · subst hji; exact yields_opU hd hi hy hS ⟨hS, H⟩
    · have h1 := (H.2 j (ready_mono hj hji)).2
      obtain ⟨hjun, oj, hoj, hall⟩ := mem_ready.1 hj
      have hnot : ∀ e ∈ oj.after, Region.binds md e = true → e.on ≠ i := fun e he hb heq => by
        have h2 := hall e he hb
        rw [heq, getD_both (mem_ready.1 hr).1] at h2
        cases h2
      have h2 := op_besideU hd hoj (hfree j oj hoj hji hjun hnot) (fun cs b => hsel i oi cs b hi) (fun cs b => hsel j oj cs b hoj) hQ hy h1
      refine wpOpIn_mono (fun a' w' h3 => ⟨h3.2.1, anyU_first hd hi hsel hs hc hn hin hdone hQ m (done.setIfInBounds j true) a' w' (inv.set hj hjn) (fun k ok hk hki hun hno => ?_) (ready_mono hr (Ne.symm hji)) h3.1 h3.2.1 ?_⟩) h2
      · refine hfree k ok hk hki ?_ hno
        by_cases hjk : j = k
        · subst hjk; exact hjun
        · rw [getD_set_ne true hjk] at hun; exact hun
      · rw [Array.setIfInBounds_comm _ _ hji]
        exact h3.2.2
/-- What is put behind the operations that may come up in any order: the rest, one behind the other. -/
def restU (P : Program) (md : Region.Mode) (ops : Array Oper) (Q : Exit → Act → World → Prop) (n : Nat) (rest : List Oper) (done : Array Bool) (a : Act) (w : World) : Prop :=
  Region.seqB md ops (ops.size - n) n done = true ∧ wpListIn Fence.wide 0 P ops Q rest a w
structure HeadOkU (ops : Array Oper) (n : Nat) : Prop where
  nd : noDefer ops = true
  ns : Region.noSelect ops = true
  sink : Region.sinkB .any ops n = true
  chain : Region.chainB .any ops n = true
  lt : n < ops.size
theorem anyU_take {n : Nat} {rest : List Oper} (hh : HeadOkU ops n) {i : Nat} {oi : Oper} {v : Value} {m : Nat} {done : Array Bool} {a : Act} {w : World} (inv : HeadInv .any ops n done) (hi : ops[i]? = some oi) (hin : i < n) (hf : Region.free .any ops done i = true) (hr : (Region.ready .any ops done).contains i = true)
    (hQ : ∀ c a w, Q (.panic c) (a.put oi.dst v) w → Q (.panic c) a w) (hy : YieldsIf P ops S oi v a) (hS : S w) (h : HeadInv .any ops n (done.setIfInBounds i true) → anyU P .any ops Q S n (restU P .any ops Q n rest) m (done.setIfInBounds i true) (a.put oi.dst v) w) : anyU P .any ops Q S n (restU P .any ops Q n rest) (m + 1) done a w := by
  have hr' : i ∈ Region.ready .any ops done := by simpa using hr
  exact anyU_first hh.nd hi (Region.noSelect_spec hh.ns) hh.sink hh.chain hh.lt hin (fun done a w hL => seqB_ready hL.1) hQ m done a w inv (Region.free_spec hi hf) hr' hy hS (h (inv.set hr' hin))
theorem anyU_one {n : Nat} {rest : List Oper} {i : Nat} {o : Oper} {m : Nat} {done : Array Bool} {a : Act} {w : World} (inv : HeadInv .any ops n done) (ho : ops[i]? = some o) (hg : o.guard = none) (hr : Region.ready .any ops done = [i]) (hin : i < n)
    (h : HeadInv .any ops n (done.setIfInBounds i true) → ∀ K : Act → World → Prop, Shut (∀ a' w', S w' → (S w' → anyU P .any ops Q S n (restU P .any ops Q n rest) m (done.setIfInBounds i true) a' w') → K a' w') → o.wpIn Fence.wide 0 P a w K Q) : anyU P .any ops Q S n (restU P .any ops Q n rest) (m + 1) done a w := by
  refine ⟨fun h0 => (by rw [hr] at h0; cases h0), fun j hj => ?_⟩
  have hj' := hj
  rw [hr] at hj
  obtain rfl : j = i := by simpa using hj
  refine ⟨hin, ?_⟩
  unfold wpOpIn
  rw [ho]
  simp only [Region.wanted, hg, if_true]
  exact h (inv.set hj' hin) _ fun a' w' h1 h2 => ⟨h1, h2 h1⟩
theorem wpIn_region_anyU {id : Nat} {a : Act} {w : World} {L : List Oper} (n : Nat) (hm : P.follows .mixedOrders = true) (hh : HeadOkU L.toArray n) (hS : S w.drew)
    (h : HeadOkU L.toArray n → HeadInv .any L.toArray n (Array.replicate L.toArray.size false) → S w.drew → anyU P .any L.toArray Q S n (restU P .any L.toArray Q n (L.drop n)) n (Array.replicate L.toArray.size false) a w.drew) : (Code.region id L.toArray true).wpIn Fence.wide 0 P Q a w := by
  have inv0 : HeadInv .any L.toArray n (Array.replicate L.toArray.size false) :=
    ⟨by simp, fun j oj _ hl => (by rw [getD_replicate_false] at hl; cases hl), fun t _ ht => getD_in (by simpa using ht) (getD_replicate_false _ _)⟩
  have hdl : (L.drop n).length = L.toArray.size - n := by simp
  have hn := hh.lt
  refine wpIn_region_any hm ?_
  have := any_of_anyU (P := P) (md := .any) (ops := L.toArray) (Q := Q) (S := S) (n := n) (g := L.toArray.size - n) (L := restU P .any L.toArray Q n (L.drop n)) (fun done a w hL => by
    have := wpAnyIn_of_seq (md := .any) (F := Fence.wide) (Q' := Q) (L.drop n) n done a w (fun j => by simp [List.getElem?_drop]) (by rw [hdl]; exact hL.1) hL.2
    rwa [hdl] at this) n _ _ _ (h hh inv0 hS)
  rw [show n + (L.toArray.size - n) = L.toArray.size by omega] at this
  exact this
theorem wp_region_anyU {id : Nat} {a : Act} {w : World} {L : List Oper} (n : Nat) (hm : P.follows .mixedOrders = true) (hh : HeadOkU L.toArray n) (hS : S w.drew)
    (h : HeadOkU L.toArray n → HeadInv .any L.toArray n (Array.replicate L.toArray.size false) → S w.drew → anyU P .any L.toArray Q S n (restU P .any L.toArray Q n (L.drop n)) n (Array.replicate L.toArray.size false) a w.drew) : (Code.region id L.toArray true).wp P Q a w :=
  (wpIn_wide (n := 0)).1 (wpIn_region_anyU n hm hh hS h)
end
end
section
open Go Go.ChangeShapes Go.WideShapes Go.RowKit
set_option linter.unusedVariables false
set_option linter.unusedSimpArgs false
attribute [local go_sem] Oper.semAt_some
theorem oi_popS {w : World} {B : Nat} {v : Value} {t : List Nat} {y : Nat} (h : OI w B v (ints (t ++ [y]))) : ∃ g c, v = .slice (some ⟨g, 0, none⟩) (t.length + 1) c ∧ OI w B (.slice (some ⟨g, 0, none⟩) t.length c) (ints t) ∧ w.cell? ⟨g, t.length, none⟩ = some (.int .i64 (y : Int)) := by
  have hl : (ints (t ++ [y])).length = t.length + 1 := by rw [ints_len]; simp
  obtain ⟨h1, h2⟩ := h
  rw [hl] at h1 h2
  rcases h2 with ⟨_, h0⟩ | ⟨g, c, cur, rfl, hb, hg, r1, r2, r3, r4⟩
  · omega
  · have e : (ints (t ++ [y])).map (Value.int .i64) = (ints t).map (Value.int .i64) ++ [.int .i64 (y : Int)] := by rw [ints_snoc]; simp
    rw [e] at r4
    refine ⟨g, c, rfl, ⟨by simp [ints_len], .inr ⟨g, c, cur, by rw [ints_len], hb, hg, by rw [ints_len]; omega, r2, r3, ?_⟩⟩, ?_⟩
    · have h3 := congrArg (List.take t.length) r4
      rw [List.take_take, Nat.mul_one, Nat.min_eq_left (by omega), List.take_left' (by simp [ints_len])] at h3
      rw [Nat.mul_one, ints_len]
      exact h3
    · have h3 := congrArg (fun l => l[t.length]?) r4
      simp only [Nat.mul_one] at h3
      rw [List.getElem?_take, if_pos (by omega), List.getElem?_append_right (by simp [ints_len])] at h3
      simp [ints_len] at h3
      simp [World.cell?, hg, h3]
theorem sl_popS (g n c : Nat) (hn : n < c) (wx : World) : (Instr.slice 31 (.slice (some ⟨g, 0, none⟩) (n + 1) c) none (some (.int .i64 (n : Int))) none).run Tryd.prog wx = .ok (.slice (some ⟨g, 0, none⟩) n c) wx := by
  rw [run_slice_h wx 31 _ (n + 1) c Tryd.underlying31 .i64 (n : Int) (by omega) (by omega)]
  have hs : (sizeOf (Tryd.prog.elem 31)).run Tryd.prog wx = .ok 1 wx := by kernel_rfl
  rw [hs]
  simp only [Result.andThen, sliced, Int.toNat_natCast, Nat.sub_zero]
  rw [if_neg (by omega)]
  rfl
def lenS : Value → Nat
  | .slice _ n _ => n
  | _ => 0
theorem ends_orS {t : List Nat} : t = [] ∨ ∃ t0 y, t = t0 ++ [y] := by
  rcases List.eq_nil_or_concat t with h | ⟨t0, y, h⟩
  · exact .inl h
  · exact .inr ⟨t0, y, by rw [h]; simp⟩
theorem way_cellS {w : World} {B : Nat} {p : Option Addr} {n c : Nat} {ls : List (Int × List Int)} (h : WO w B (.slice p n c) ls) {k : Nat} (hk : k < ls.length) : ∃ b u, p = some ⟨b, 0, none⟩ ∧ w.cell? ⟨b, k * 2, none⟩ = some (.int .i64 (ls.getD k wayZ).1) ∧ w.cell? ⟨b, k * 2 + 1, none⟩ = some u ∧ OI w B u (ls.getD k wayZ).2 := by
  obtain ⟨p', c', he, hc⟩ := way_form h
  simp only [Value.slice.injEq] at he
  obtain ⟨rfl, _, rfl⟩ := he
  exact hc k hk
theorem blk_arrS {A : World} {b : Nat} {arr : Array Value} {l : List Value} {T : TypeId} (h : b = A.heap.size) (e : arr.toList = l) : Blk (A.alloc (.cells arr T)) b l T := by
  subst h e
  unfold Blk
  rw [Array.toArray_toList]
  exact heap_alloc_new A _
set_option maxHeartbeats 2000000 in
theorem rhas_any (v : Value) (ws : List Nat) (q : Nat) (w : World) (h : Ri w v (ints ws)) :
    Calls Tryd.prog 59 #[v, .int .i64 (q : Int)] w fun e w' => e = .returned (.bool (decide (q ∈ ws))) ∧ w' = w := by
  have HR := Lib.hid h
  obtain ⟨p, c, rfl, hc, hm, hp⟩ := ri_form h
  rw [ints_len] at HR hm ⊢
  clear hp h hc
  go_enter Tryd.func59, Tryd.ntmps59
  go_wp2_with fail
  go_loop [5] (fun s => ∃ j : Nat, s = .int .i64 j ∧ j ≤ ws.length ∧ ∀ i, i < j → ws.getD i 0 ≠ q) (fun s => ws.length - (intOf s).toNat)
  case atStart => exact ⟨0, rfl, Nat.zero_le _, fun i hi => by omega⟩
  case round =>
    obtain ⟨j, rfl, hj, hno⟩ := hrel
    have HNO := Lib.hid hno
    clear hno
    by_cases hjl : j < ws.length
    · obtain ⟨bC, oC, rfl, hcC⟩ := ri_cell HR.out (k := j) (by rw [ints_len]; exact hjl)
      obtain ⟨x, hx⟩ : ∃ x, ws.getD j 0 = x := ⟨_, rfl⟩
      rw [ints_getD, hx] at hcC
      have hjz : (j : Int) < (ws.length : Int) := by omega
      have HXE := Lib.hid hx
      by_cases hxq : x = q
      · have hxb : ((x : Int) == (q : Int)) = true := by simp [hxq]
        have HM := Lib.hid (show decide (q ∈ ws) = true by rw [decide_eq_true_eq, ← hxq, ← hx, List.getD_eq_getElem?_getD, List.getElem?_eq_getElem hjl]; simp)
        clear hxq hx
        go_wp2_with fail
        go_ret
        exact ⟨ret_b HM.out.symm, rfl⟩
      · have hxb : ((x : Int) == (q : Int)) = false := by rw [beq_eq_false_iff_ne]; omega
        have HXQ := Lib.hid hxq
        clear hxq hx
        go_wp2_with fail
        go_round
        case rel => exact ⟨j + 1, by go_num, by omega, fun i hi => by
          by_cases e : i = j
          · subst e; rw [HXE.out]; exact HXQ.out
          · exact HNO.out i (by omega)⟩
        case measure => simp [intOf]; omega
    · have hjz : ¬ (j : Int) < (ws.length : Int) := by omega
      have HM := Lib.hid (show decide (q ∈ ws) = false by
        rw [decide_eq_false_iff_not]
        intro hm
        obtain ⟨i, hi, hie⟩ := List.getElem_of_mem hm
        exact HNO.out i (by omega) (by rw [List.getD_eq_getElem?_getD, List.getElem?_eq_getElem hi, hie]; rfl))
      go_wp2_with fail
      go_ret
      exact ⟨ret_b HM.out.symm, rfl⟩
/-- The rows of words. -/
def rowC (rho : Nat → Nat) (n s : Nat) : List Value := (List.range n).map fun x => .slice (some ⟨rho x, 0, none⟩) s s
structure Wl (bO n s : Nat) (rho : Nat → Nat) (W : World) (L : List (List Nat)) : Prop where
  out : Blk W bO (rowC rho n s) 52
  row : ∀ x, x < n → Blk W (rho x) ((L.getD x []).map wordV) 53
/-- The ways seen from their ends, as they lie in memory. -/
def SB (W : World) (bB n : Nat) (BB : Nat → List (Nat × List Nat)) : Prop :=
  ∀ y, y < n → ∃ p c, W.cell? ⟨bB, y, none⟩ = some (.slice p (BB y).length c) ∧ ∀ i, i < (BB y).length → ∃ b u, p = some ⟨b, 0, none⟩ ∧ W.cell? ⟨b, i * 2, none⟩ = some (.int .i64 (((BB y).getD i (0, [])).1 : Int)) ∧ W.cell? ⟨b, i * 2 + 1, none⟩ = some u ∧ Ri W u (ints ((BB y).getD i (0, [])).2)
theorem SB.keep {W W' : World} {bB n : Nat} {BB : Nat → List (Nat × List Nat)} (h : SB W bB n BB) (hb : Below W.heap.size W W') : SB W' bB n BB := fun y hy => by
  obtain ⟨p, c, h1, h2⟩ := h y hy
  refine ⟨p, c, below_cell hb h1, fun i hi => ?_⟩
  obtain ⟨b, u, e, h3, h4, h5⟩ := h2 i hi
  exact ⟨b, u, e, below_cell hb h3, below_cell hb h4, h5.keep hb⟩
def rowO : Option Obj → List Nat
  | some (.cells cs _ _) => cs.toList.map fun v => match v with | .int _ x => x.toNat | _ => 0
  | _ => []
theorem rowO_blk {A : World} {b : Nat} {l : List Nat} {T : TypeId} (h : Blk A b (l.map wordV) T) : rowO A.heap[b]? = l := by
  unfold Blk at h
  rw [h]
  unfold rowO
  simp only [List.map_map]
  conv => rhs; rw [← List.map_id l]
  refine List.map_congr_left fun x _ => ?_
  simp [wordV, Function.comp]
def potO (BB : Nat → List (Nat × List Nat)) (q : Nat) (rho : Nat → Nat) (n : Nat) (W : World) : Nat := potS BB ((List.range n).map fun y => rowO W.heap[rho y]?) q n
theorem potO_eq {BB : Nat → List (Nat × List Nat)} {q bO n s : Nat} {rho : Nat → Nat} {W : World} {L : List (List Nat)} (h : Wl bO n s rho W L) : potO BB q rho n W = potS BB L q n := by
  refine potS_eq n fun y hy => ?_
  rw [show ((List.range n).map fun y => rowO W.heap[rho y]?).getD y [] = rowO W.heap[rho y]? from by rw [List.getD_eq_getElem?_getD, List.getElem?_map, List.getElem?_range hy]; rfl, rowO_blk (h.row y hy)]
theorem rowC_at (rho : Nat → Nat) {n s y : Nat} (hy : y < n) : (rowC rho n s)[y]? = some (.slice (some ⟨rho y, 0, none⟩) s s) := by
  unfold rowC
  rw [List.getElem?_map, List.getElem?_range hy]; rfl
theorem Wl.block {bO n s : Nat} {rho : Nat → Nat} {W W' : World} {L : List (List Nat)} (h : Wl bO n s rho W L) (hk : ∀ b, b < W.heap.size → (b = bO ∨ ∃ x, x < n ∧ b = rho x) → W'.heap[b]? = W.heap[b]?) : Wl bO n s rho W' L :=
  ⟨h.out.block (hk _ h.out.lt (.inl rfl)), fun x hx => (h.row x hx).block (hk _ (h.row x hx).lt (.inr ⟨x, hx, rfl⟩))⟩
theorem Wl.ne {bO n s : Nat} {rho : Nat → Nat} {W : World} {L : List (List Nat)} (h : Wl bO n s rho W L) {x : Nat} (hx : x < n) : bO ≠ rho x := fun e => by
  have h1 := h.out
  have h2 := h.row x hx
  rw [← e] at h2
  exact absurd (h1.type h2) (by decide)
/-- A word of a row becomes another one. -/
theorem Wl.set {bO n s : Nat} {rho : Nat → Nat} {W : World} {L : List (List Nat)} (h : Wl bO n s rho W L) (hinj : ∀ x y, x < n → y < n → rho x = rho y → x = y) (hL : L.length = n) {x : Nat} (hx : x < n) (i v : Nat) :
    Wl bO n s rho (W.setCell ⟨rho x, i, none⟩ (.int .u64 (v : Int))) (L.set x ((L.getD x []).set i v)) := by
  refine ⟨h.out.block (Below.heap_setCell _ _ _ bO (h.ne hx)), fun y hy => ?_⟩
  rw [getD_setL _ _ _ _ _ (by omega)]
  by_cases e : x = y
  · subst e
    rw [if_pos rfl, List.map_set]
    exact (h.row x hx).set i _
  · rw [if_neg e]
    exact (h.row y hy).block (Below.heap_setCell _ _ _ _ (fun e2 => e (hinj x y hx hy e2.symm)))
def pushB (q : Nat) (l : List (Nat × List Nat)) : List Nat := (l.filter fun p => !decide (q ∈ p.2)).map (·.1)
theorem pushB_snoc (q : Nat) (l : List (Nat × List Nat)) (p : Nat × List Nat) : pushB q (l ++ [p]) = pushB q l ++ (if q ∈ p.2 then [] else [p.1]) := by
  unfold pushB
  rw [List.filter_append, List.map_append]
  congr 1
  by_cases h : q ∈ p.2 <;> simp [h]
theorem pushB_len (q : Nat) (l : List (Nat × List Nat)) : (pushB q l).length ≤ l.length := by
  unfold pushB
  rw [List.length_map]
  exact List.length_filter_le _ _
theorem and_pow2 (a k : Nat) : a &&& 2 ^ k = (a.testBit k).toNat * 2 ^ k := by
  refine Nat.eq_of_testBit_eq fun i => ?_
  rw [Nat.testBit_and, Nat.testBit_two_pow]
  by_cases e : k = i
  · subst e
    cases h : a.testBit k <;> simp
  · cases h : a.testBit k <;> simp [e, Nat.testBit_two_pow]
theorem bit_and {a k : Nat} (ha : a < 18446744073709551616) (hk : k < 64) : bits .and .u64 (a : Int) (IntKind.u64.wrap ((2 : Int) ^ k)) = ((a &&& 2 ^ k : Nat) : Int) := by
  rw [wrap_word hk]
  exact u64_and_nat a (2 ^ k) ha (two_lt hk)
/-- What the rounds of spread hold. -/
structure SpI (G : Gr) (BB : Nat → List (Nat × List Nat)) (L0 : List (List Nat)) (q bO n s : Nat) (rho : Nat → Nat) (w : World) (C : Nat) (tv : Value) (W : World) (L : List (List Nat)) (td : List Nat) : Prop where
  inv : SInv G BB L0 q C L td
  own : OI W w.heap.size tv (ints td)
  wl : Wl bO n s rho W L
  kw : Kw (fun b => ∀ x, x < n → b ≠ rho x) w W
def SPost10 (G : Gr) (BB : Nat → List (Nat × List Nat)) (L0 : List (List Nat)) (q bO n s : Nat) (rho : Nat → Nat) (w : World) (e : Ending) (W : World) : Prop :=
  (∃ v, e = .returned v) ∧ ∃ C L, SInv G BB L0 q C L [] ∧ Wl bO n s rho W L ∧ Kw (fun b => ∀ x, x < n → b ≠ rho x) w W
set_option maxRecDepth 100000 in
set_option maxHeartbeats 8000000 in
theorem spread_any (G : Gr) (hG : G.Ok) (BB : Nat → List (Nat × List Nat)) (hB : BackOk G BB) (bO bB : Nat) (rho : Nat → Nat) (w : World) (L0 : List (List Nat)) (td : List Nat) (tv : Value) (q C : Nat)
    (hO : Wl bO G.n G.s rho w L0) (hinj : ∀ x y, x < G.n → y < G.n → rho x = rho y → x = y) (hSB : ∀ W, Kw (fun b => ∀ x, x < G.n → b ≠ rho x) w W → SB W bB G.n BB) (htd : Ri w tv (ints td)) (hS : SInv G BB L0 q C L0 td)
    (hq : q < G.regs) (hr : G.regs ≤ 65536) (hs : 64 * G.s < G.regs + 64 ∧ G.regs ≤ 64 * G.s) (hn : G.n ≤ 1048576) (hC : C ≤ 4398046511104) (hBl : ∀ y, y < G.n → (BB y).length ≤ 4398046511104) :
    Calls Tryd.prog 52 #[.slice (some ⟨bO, 0, none⟩) G.n G.n, .slice (some ⟨bB, 0, none⟩) G.n G.n, tv, .int .i64 (q : Int)] w (SPost10 G BB L0 q bO G.n G.s rho w) := by
  have HO := Lib.hid hO
  have HSB := Lib.hid hSB
  have HTD := Lib.hid htd
  have HS := Lib.hid hS
  obtain ⟨p, c, rfl, hc, hm, hp⟩ := ri_form htd
  rw [ints_len] at HTD hm ⊢
  clear hO hSB htd hS hp hc
  obtain ⟨qd, hqd⟩ : ∃ qd, q / 64 = qd := ⟨_, rfl⟩
  obtain ⟨qm, hqm⟩ : ∃ qm, q % 64 = qm := ⟨_, rfl⟩
  have e1 : (q : Int) / 64 = (qd : Int) := by omega
  have e2 : (q : Int) % 64 = (qm : Int) := by omega
  have hqml : qm < 64 := by omega
  have hqdl : qd < G.s := by omega
  have hsh := shl_word hqml
  have hE0 : (w.alloc (.cells #[] 3)).ownsRow w.heap.size 3 1 (.slice (some ⟨w.heap.size, 0, none⟩) 0 0) 0 [] := ⟨by simp, .inr ⟨w.heap.size, 0, #[], rfl, Nat.le_refl _, heap_alloc_new w _, by omega, by simp, by simp, by simp⟩⟩
  have HE0 := Lib.hid hE0
  clear hE0
  go_enter Tryd.func52, Tryd.ntmps52
  go_wp2_with (first
    | (at_builtin; refine wpList_app rfl (.tmp 15) (.tmp 16) rfl Tryd.underlying31 infoInt rfl rfl (v := .slice (some ⟨w.heap.size, 0, none⟩) 0 0) (base := w.heap.size) (n := 0) (m := (ints td).length) (xs := []) (news := (ints td).map (Value.int .i64)) HE0.out rfl ((HTD.out.keep (by ((repeat' (first | with_reducible assumption | with_reducible exact Below.refl _ _ | with_reducible refine Below.drew ?_ | with_reducible refine Below.alloc ?_ (by first | omega | (simp; omega) | (simp; done) | fail) _ | with_reducible refine Below.setCell ?_ (by first | omega | (simp; omega) | (simp; done) | fail) _ | fail)); (first | done | fail)))).src) (ones_int _) (by unfold maxLen; rw [ints_len]; omega) (by rw [ints_len]; omega) (by simp) ?_; intro v0 w0 hap; have HAP := Lib.hid hap; clear hap)
    | fail)
  have hown0 : OI w0 w.heap.size v0 (ints td) := by
    have h := HAP.out.own
    rwa [Nat.zero_add, List.nil_append] at h
  have HST := Lib.hid (show SpI G BB L0 q bO G.n G.s rho w C v0 w0 L0 td from
    have hk : Below w.heap.size w w0 := ((Below.refl w.heap.size w).alloc (Nat.le_refl _) _).trans (HAP.out.below (by simp) (fun g hg => by simp [Value.ownBlock] at hg; omega))
    ⟨HS.out, hown0, HO.out.block fun b hb _ => hk.block b hb, Kw.all hk⟩)
  have hpt := potS_le (BB := BB) (L := L0) (r := q) G.n
  go_loopw [2] (fun s2 wx => ∃ (C1 : Nat) (L : List (List Nat)) (td1 : List Nat), C1 ≤ C ∧ SpI G BB L0 q bO G.n G.s rho w C1 s2 wx L td1) (fun s2 wx => lenS s2 + potO BB q rho G.n wx)
  case atStart => exact ⟨C, L0, td, Nat.le_refl _, HST.out⟩
  case round =>
    obtain ⟨C1, L, td1, hC1, hsp⟩ := hrel
    have HSP := Lib.hid hsp
    rcases ends_orS (t := td1) with rfl | ⟨t, y, rfl⟩
    · obtain ⟨p1, c1, rfl⟩ := own_form hsp.own
      rw [ints_len]
      clear hsp
      go_wp2_with fail
      (try simp only [Exit.inBlock, Exit.then])
      refine bodyPost_end (results_none rfl _ _ _) rfl ?_
      exact ⟨⟨_, rfl⟩, _, _, HSP.out.inv, HSP.out.wl, HSP.out.kw⟩
    · obtain ⟨g, cg, rfl, hot, hcy⟩ := oi_popS hsp.own
      have hyn := hsp.inv.todo_lt y (by simp)
      have htb := hsp.inv.bound
      have hng : t.length < cg := by
        rcases hsp.own.2 with ⟨h, _⟩ | ⟨g', c', cur, h, _, _, h2, _⟩
        · simp at h
        · simp only [Value.slice.injEq] at h
          obtain ⟨_, h3, rfl⟩ := h
          omega
      obtain ⟨n0, hn0⟩ : ∃ n0, t.length = n0 := ⟨_, rfl⟩
      rw [hn0] at hot hcy hng ⊢
      have htl : n0 + 1 ≤ 4398046511104 := by simp [hn0] at htb; omega
      have hsl := sl_popS g n0 cg hng
      have hcO := hsp.wl.out.cell (rowC_at rho (s := G.s) hyn)
      have hrw := hsp.wl.row y hyn
      have hok := hsp.inv.ok.row y hyn
      obtain ⟨dw, hdw⟩ : ∃ dw, (L.getD y []).getD qd 0 = dw := ⟨_, rfl⟩
      have hcw := hrw.word (i := qd) (by rw [hok.len]; exact hqdl)
      have hfw := hrw.frozen qd
      have hd64 := hok.lt qd
      rw [hdw] at hcw hd64
      have hhw : hasW (L.getD y []) q = dw.testBit qm := by unfold hasW; rw [hqd, hqm, hdw]
      have hand := bit_and hd64 hqml
      have hyz : (y : Int) < (G.n : Int) := by omega
      have hqz : (qd : Int) < (G.s : Int) := by omega
      have HOT := Lib.hid hot
      have HN0 := Lib.hid hn0
      have hpo := potO_eq (BB := BB) (q := q) hsp.wl
      have HPO := Lib.hid hpo
      rw [and_pow2] at hand
      cases htbb : dw.testBit qm with
      | true =>
        have HSK := Lib.hid (hsp.inv.skip (by simp) (by rw [List.getLast_concat, hhw, htbb]))
        obtain ⟨pw, hpw⟩ : ∃ pw, 2 ^ qm = pw := ⟨_, rfl⟩
        have hp0 : 0 < pw := by rw [← hpw]; exact Nat.two_pow_pos _
        have hne : ((pw : Int) != 0) = true := by simp; omega
        rw [htbb, hpw, Bool.toNat_true, Nat.one_mul] at hand
        clear hsp hot hn0 htb hrw hok hdw hhw htbb hd64 hpo hpw
        go_wp2_with fail
        go_roundw
        case rel =>
          have h := HSK.out
          rw [List.dropLast_concat] at h
          exact ⟨C1 - 1, L, t, by omega, h, HOT.out, HSP.out.wl, HSP.out.kw⟩
        case measure => simp [lenS]
      | false =>
        have HTK := Lib.hid (hsp.inv.take hG hB hq (by simp) (x := y) (by simp) (by rw [hhw, htbb]))
        rw [htbb, Bool.toNat_false, Nat.zero_mul] at hand
        have hor := set_word' hd64 hqml
        have eqw : IntKind.i64.wrap (qd : Int) = (qd : Int) := IntWalk.i64_in _ (by omega)
        have hset : setW (L.getD y []) q = (L.getD y []).set qd (dw ||| 2 ^ qm) := by unfold setW; rw [hqd, hqm, hdw]
        have HW1 := Lib.hid (show Wl bO G.n G.s rho ((wr.setCell ⟨rho y, qd, none⟩ (.int .u64 ((dw ||| 2 ^ qm : Nat) : Int))).drew) (L.set y (setW (L.getD y []) q)) from by
          rw [hset]
          exact (hsp.wl.set hinj hsp.inv.ok.len hyn qd (dw ||| 2 ^ qm)).block fun b hb _ => ((Below.refl _ _).drew).block b hb)
        have hgs := OW.lt hot rfl
        have hrl := hrw.lt
        have hgne : g ≠ rho y := fun e => by
          obtain ⟨cur, hcur⟩ : ∃ cur, wr.heap[g]? = some (.cells cur 3 (0, 0)) := by
            rcases hot.2 with ⟨h, _⟩ | ⟨g', c', cur, h, _, hh, _⟩
            · cases h
            · simp only [Value.slice.injEq, Option.some.injEq, Addr.mk.injEq] at h
              obtain ⟨⟨rfl, _⟩, _⟩ := h
              exact ⟨cur, hh⟩
          unfold Blk at hrw
          rw [← e, hcur] at hrw
          simp at hrw
        have HK1 := Lib.hid (show Kw (fun b => ∀ x, x < G.n → b ≠ rho x) w ((wr.setCell ⟨rho y, qd, none⟩ (.int .u64 ((dw ||| 2 ^ qm : Nat) : Int))).drew) from (hsp.kw.setCell _ _ (fun h => h y hyn rfl)).trans (Kw.all (Below.refl _ _).drew))
        have ho6 : OI (wr.setCell ⟨rho y, qd, none⟩ (.int .u64 ((dw ||| 2 ^ qm : Nat) : Int))) w.heap.size (.slice (some ⟨g, 0, none⟩) n0 cg) (ints t) := OW.block hot (fun g' hg' => by
          simp only [Value.ownBlock, Option.some.injEq] at hg'
          subst hg'
          exact Below.heap_setCell _ _ _ g hgne)
        have HO1 := Lib.hid (ho6.keep ((Below.refl _ _).drew))
        have HLT := Lib.hid (show (BB y).length + potS BB (L.set y (setW (L.getD y []) q)) q G.n + 1 ≤ potS BB L q G.n from by
          have h := potS_less (BB := BB) (L := L) (L' := L.set y (setW (L.getD y []) q)) (r := q) (x := y) G.n hyn (fun z hz => by
            by_cases hzn : z < L.length
            · rw [getD_setL _ _ _ _ _ (by rw [hsp.inv.ok.len]; exact hyn), if_neg (fun e => hz e.symm)]
            · simp only [List.getD_eq_getElem?_getD, List.getElem?_set_ne (fun e => hz e.symm : y ≠ z)]) (by
            rw [getD_setL _ _ _ _ _ (by rw [hsp.inv.ok.len]; exact hyn), if_pos rfl, has_set (by rw [hok.len, hqd]; exact hqdl)]
            simp) (by rw [hhw, htbb])
          omega)
        have hbsb := (HSB.out wr hsp.kw)
        clear hsp hn0 hrw hok hhw htbb hd64 hpo hset hot ho6
        go_wp2_with fail
        refine wp_region_still_tail' 16 (by kernel_rfl) (by kernel_rfl) ?_
        simp only [List.take_succ_cons, List.take_zero, List.drop_succ_cons, List.drop_zero]
        repeat still_step
        refine wpStill_nil ?_
        go_wp2_with fail
        obtain ⟨W1, hW1⟩ : ∃ W1, ((wr.setCell ⟨rho y, qd, none⟩ (.int .u64 ((dw ||| 2 ^ qm : Nat) : Int))).drew) = W1 := ⟨_, rfl⟩
        rw [hW1] at HW1 HK1 HO1 ⊢
        have hs1 : W1.heap.size = wr.heap.size := by rw [← hW1]; simp
        clear hW1
        have hbO := HO.out.out.lt
        have hbly := hBl y hyn
        have hbx : ∀ x, x < G.n → rho x < w.heap.size := fun x hx => (HO.out.row x hx).lt
        have hsw : w.heap.size ≤ wr.heap.size := HSP.out.kw.size
        have HBY := Lib.hid (HSB.out W1 HK1.out y hyn)
        clear hbsb hcO hcy hcw hfw
        obtain ⟨wA, rfl⟩ : ∃ wA : World, wA = wr := ⟨_, rfl⟩
        go_loopw [10, 2] (fun s10 s2 wx => ∃ (k : Nat) (ls : List Nat), t ++ pushB q ((BB y).take k) = ls ∧ s10 = .int .i64 k ∧ k ≤ (BB y).length ∧ OI wx w.heap.size s2 (ints ls) ∧ Kw (fun b => b < w.heap.size) W1 wx) (fun s10 _ _ => (BB y).length - (intOf s10).toNat)
        case atStart => exact ⟨0, t, by simp [pushB], rfl, Nat.zero_le _, HO1.out, Kw.refl _ _⟩
        case round =>
          obtain ⟨k, ls, hls, rfl, hk, hoi, hkw⟩ := hrel
          have hlsl : ls.length ≤ n0 + (BB y).length := by
            have h1 := pushB_len q ((BB y).take k)
            rw [← hls, List.length_append, HN0.out]
            rw [List.length_take] at h1
            omega
          have HKW2 := Lib.hid (show Kw (fun b => ∀ x, x < G.n → b ≠ rho x) w wr from ⟨hkw.os.trans HK1.out.os, hkw.tape.trans HK1.out.tape, hkw.output.trans HK1.out.output, Nat.le_trans HK1.out.size hkw.size, fun b hb hl => (hkw.block b hl (by omega)).trans (HK1.out.block b hb hl)⟩)
          obtain ⟨pB, cB, hcB, hrB⟩ := HSB.out wr HKW2.out y hyn
          have HOI := Lib.hid hoi
          have HKW := Lib.hid hkw
          have HLS := Lib.hid hls
          obtain ⟨pv, cv, rfl⟩ := own_form hoi
          rw [ints_len] at HOI ⊢
          have hsz := hkw.size
          clear hoi hkw hls
          by_cases hkl : k < (BB y).length
          · obtain ⟨bB2, u, rfl, g1, g2, g3⟩ := hrB k hkl
            obtain ⟨⟨fr, ws⟩, hfw⟩ : ∃ p, (BB y).getD k (0, []) = p := ⟨_, rfl⟩
            rw [hfw] at g1 g3
            dsimp only at g1 g3
            have HHS := Lib.hid (rhas_any u ws q wr g3)
            obtain ⟨pU, cU, rfl, _, _, _⟩ := ri_form g3
            have HPS := Lib.hid (show t ++ pushB q ((BB y).take (k + 1)) = ls ++ (if q ∈ ws then [] else [fr]) by
              rw [List.take_succ_eq_append_getElem hkl, pushB_snoc, ← List.append_assoc, HLS.out]
              rw [List.getD_eq_getElem?_getD, List.getElem?_eq_getElem hkl] at hfw
              simp only [Option.getD_some] at hfw
              rw [hfw])
            have hkz : (k : Int) < ((BB y).length : Int) := by omega
            clear hfw g3 hrB
            cases hqw : decide (q ∈ ws) with
            | true =>
              have hqm2 : q ∈ ws := of_decide_eq_true hqw
              rw [if_pos hqm2, List.append_nil] at HPS
              rw [hqw] at HHS
              clear hqm2 hqw
              go_wp2_with (first
                | (go_at_call 59; (with_reducible refine HHS.out.mono ?_); rintro e w9 ⟨rfl, rfl⟩)
                | fail)
              go_roundw
              case rel => exact ⟨k + 1, ls, HPS.out, by go_num, by omega, HOI.out, HKW.out⟩
              case measure => simp [intOf]; omega
            | false =>
              have hqm2 : ¬ q ∈ ws := of_decide_eq_false hqw
              rw [if_neg hqm2] at HPS
              rw [hqw] at HHS
              clear hqm2 hqw
              go_wp2_with (first
                | (go_at_call 59; (with_reducible refine HHS.out.mono ?_); rintro e w9 ⟨rfl, rfl⟩)
                | (at_builtin; refine wpList_app rfl (.tmp 80) (.tmp 89) rfl Tryd.underlying31 infoInt rfl rfl (v := .slice pv ls.length cv) (base := w.heap.size) (n := ls.length) (m := 1) (xs := (ints ls).map (Value.int .i64)) (news := [.int .i64 (fr : Int)]) (by have h := OW.keep HOI.out ((Below.refl _ _).alloc (Nat.le_refl _) (.cells #[.int .i64 (fr : Int)] 3)); unfold OW at h; rw [ints_len] at h; exact h) rfl (src_one rfl) (by simp [Value.oneCell']) (by unfold maxLen; omega) (by omega) (by simp; omega) ?_; intro v' w5 hap; have HAP := Lib.hid hap; clear hap)
                | fail)
              have hown : OI w5 w.heap.size v' (ints (ls ++ [fr])) := by
                have h := own_apd (ws := ints ls) (x := (fr : Int)) (by rw [ints_len]; exact HAP.out)
                rwa [← ints_snoc] at h
              have HOW := Lib.hid hown
              obtain ⟨pv', cv', rfl⟩ := own_form hown
              clear hown
              go_wp2_with fail
              go_roundw
              case rel => exact ⟨k + 1, ls ++ [fr], HPS.out, by go_num, by omega, HOW.out, (HKW.out.alloc _).grown HAP.out.grown (fun g' hg' hK => by have h1 := (OW.lt HOI.out hg').1; omega)⟩
              case measure => simp [intOf]; omega
          · have hkz : ¬ (k : Int) < ((BB y).length : Int) := by omega
            have hke : (BB y).take k = BB y := List.take_of_length_le (by omega)
            have HLE := Lib.hid (show t ++ pushB q (BB y) = ls by have h := HLS.out; rwa [hke] at h)
            have HWN := Lib.hid (HW1.out.block (W' := wr) fun b _ hb => HKW.out.block b (by rcases hb with rfl | ⟨x, hx, rfl⟩; exact hbO; exact hbx x hx) (by rcases hb with rfl | ⟨x, hx, rfl⟩; omega; have := hbx x hx; omega))
            clear hke hrB
            go_wp2_with fail
            go_roundw
            case rel =>
              refine ⟨C1 - 1, L.set y (setW (L.getD y []) q), ls, by omega, ?_, HOI.out, HWN.out, HKW2.out⟩
              have h := HTK.out
              rw [List.dropLast_concat] at h
              rw [← HLE.out]
              exact h
            case measure =>
              rw [potO_eq HWN.out, HPO.out]
              simp only [lenS]
              have := HLT.out
              omega
end
section
open Go Go.ChangeShapes Go.WideShapes Go.RowKit
set_option linter.unusedVariables false
set_option linter.unusedSimpArgs false
def pushW (x : Nat) (ff : Nat → List (Nat × List Nat)) (w : Nat × List Nat) : Nat → List (Nat × List Nat) := fun y => if y = w.1 then ff y ++ [(x, w.2)] else ff y
def bbAll (F : FuncD) (k : Nat) : Nat → List (Nat × List Nat) := (List.range k).foldl (fun ff x => (waysN F x).foldl (pushW x) ff) (fun _ => [])
theorem bbAll_succ (F : FuncD) (k : Nat) : bbAll F (k + 1) = (waysN F k).foldl (pushW k) (bbAll F k) := by
  unfold bbAll
  rw [List.range_succ, List.foldl_append]; rfl
theorem pushW_mem {x y : Nat} {p : Nat × List Nat} : ∀ (ws : List (Nat × List Nat)) (ff : Nat → List (Nat × List Nat)), p ∈ (ws.foldl (pushW x) ff) y ↔ p ∈ ff y ∨ (p.1 = x ∧ (y, p.2) ∈ ws)
  | [], ff => by simp
  | w :: ws, ff => by
    rw [List.foldl_cons, pushW_mem ws (pushW x ff w)]
    unfold pushW
    obtain ⟨p1, p2⟩ := p
    obtain ⟨w1, w2⟩ := w
    by_cases e : y = w1
    · subst e
      simp only [if_true, List.mem_append, List.mem_cons, List.not_mem_nil, or_false, Prod.mk.injEq, true_and]
      constructor
      · rintro ((h | ⟨h1, h2⟩) | ⟨h1, h2⟩)
        · exact .inl h
        · exact .inr ⟨h1, .inl h2⟩
        · exact .inr ⟨h1, .inr h2⟩
      · rintro (h | ⟨h1, h2 | h2⟩)
        · exact .inl (.inl h)
        · exact .inl (.inr ⟨h1, h2⟩)
        · exact .inr ⟨h1, h2⟩
    · rw [if_neg e]
      simp only [List.mem_cons, Prod.mk.injEq, e, false_and, false_or]
theorem bbAll_mem {F : FuncD} {y : Nat} {p : Nat × List Nat} : ∀ (k : Nat), p ∈ bbAll F k y ↔ p.1 < k ∧ (y, p.2) ∈ waysN F p.1
  | 0 => by simp [bbAll]
  | k + 1 => by
    rw [bbAll_succ, pushW_mem, bbAll_mem k]
    constructor
    · rintro (⟨h1, h2⟩ | ⟨h1, h2⟩)
      · exact ⟨by omega, h2⟩
      · exact ⟨by omega, by rw [h1]; exact h2⟩
    · rintro ⟨h1, h2⟩
      by_cases e : p.1 = k
      · exact .inr ⟨e, by rw [← e]; exact h2⟩
      · exact .inl ⟨by omega, h2⟩
theorem back_ok (F : FuncD) : BackOk (grOf F) (bbAll F F.ins.length) :=
  ⟨fun y _ p hp => ((bbAll_mem _).1 hp).1, fun y _ p hp => ((bbAll_mem _).1 hp).2, fun x hx w hw => (bbAll_mem _).2 ⟨hx, hw⟩⟩
theorem blens_push (x : Nat) (ff : Nat → List (Nat × List Nat)) (w : Nat × List Nat) : ∀ m, blens (pushW x ff w) m ≤ blens ff m + 1 ∧ (m ≤ w.1 → blens (pushW x ff w) m = blens ff m)
  | 0 => ⟨by simp [blens], fun _ => rfl⟩
  | m + 1 => by
    obtain ⟨h1, h2⟩ := blens_push x ff w m
    rw [blens, blens]
    unfold pushW at h1 h2 ⊢
    by_cases e : m = w.1
    · have := h2 (by omega)
      rw [this, if_pos e, List.length_append, List.length_singleton]
      exact ⟨by omega, fun h => by omega⟩
    · rw [if_neg e]
      exact ⟨by omega, fun h => by rw [h2 (by omega)]⟩
theorem blens_fold (x m : Nat) : ∀ (ws : List (Nat × List Nat)) (ff : Nat → List (Nat × List Nat)), blens (ws.foldl (pushW x) ff) m ≤ blens ff m + ws.length
  | [], ff => by simp
  | w :: ws, ff => by
    have h1 := blens_fold x m ws (pushW x ff w)
    have h2 := (blens_push x ff w m).1
    rw [List.foldl_cons, List.length_cons]
    omega
theorem blens_zero : ∀ m, blens (fun _ => []) m = 0
  | 0 => rfl
  | m + 1 => by rw [blens, blens_zero m]; rfl
theorem blens_all (F : FuncD) (m : Nat) : ∀ k, blens (bbAll F k) m ≤ 3 * k
  | 0 => by rw [show bbAll F 0 = fun _ => [] from rfl, blens_zero]; omega
  | k + 1 => by
    rw [bbAll_succ]
    have h1 := blens_fold k m (waysN F k) (bbAll F k)
    have h2 := blens_all F m k
    have h3 := waysD_le F k
    have h4 := waysN_len F k
    omega
theorem blens_at {BB : Nat → List (Nat × List Nat)} {y : Nat} : ∀ m, y < m → (BB y).length ≤ blens BB m
  | m + 1, h => by
    rw [blens]
    by_cases e : y = m
    · subst e; omega
    · have := blens_at (BB := BB) m (by omega : y < m); omega
def pushR (x : Nat) (ff : Nat → List Nat) (r : Nat) : Nat → List Nat := fun q => if q = r then ff q ++ [x] else ff q
def rrAll (F : FuncD) (k : Nat) : Nat → List Nat := (List.range k).foldl (fun ff x => (readsN F x).foldl (pushR x) ff) (fun _ => [])
theorem rrAll_succ (F : FuncD) (k : Nat) : rrAll F (k + 1) = (readsN F k).foldl (pushR k) (rrAll F k) := by
  unfold rrAll
  rw [List.range_succ, List.foldl_append]; rfl
theorem pushR_mem {x q z : Nat} : ∀ (rs : List Nat) (ff : Nat → List Nat), z ∈ (rs.foldl (pushR x) ff) q ↔ z ∈ ff q ∨ (z = x ∧ q ∈ rs)
  | [], ff => by simp
  | r :: rs, ff => by
    rw [List.foldl_cons, pushR_mem rs (pushR x ff r)]
    unfold pushR
    by_cases e : q = r
    · subst e
      simp only [if_true, List.mem_append, List.mem_cons, List.not_mem_nil, or_false, true_or, and_true]
      constructor
      · rintro ((h | h) | ⟨h, _⟩)
        · exact .inl h
        · exact .inr h
        · exact .inr h
      · rintro (h | h)
        · exact .inl (.inl h)
        · exact .inl (.inr h)
    · rw [if_neg e]
      simp only [List.mem_cons, e, false_or]
theorem rrAll_mem {F : FuncD} {q z : Nat} : ∀ (k : Nat), z ∈ rrAll F k q ↔ z < k ∧ q ∈ readsN F z
  | 0 => by simp [rrAll]
  | k + 1 => by
    rw [rrAll_succ, pushR_mem, rrAll_mem k]
    constructor
    · rintro (⟨h1, h2⟩ | ⟨rfl, h2⟩)
      · exact ⟨by omega, h2⟩
      · exact ⟨by omega, h2⟩
    · rintro ⟨h1, h2⟩
      by_cases e : z = k
      · exact .inr ⟨e, by rw [← e]; exact h2⟩
      · exact .inl ⟨by omega, h2⟩
theorem pushR_len (x q : Nat) : ∀ (rs : List Nat) (ff : Nat → List Nat), (rs.foldl (pushR x) ff q).length ≤ (ff q).length + rs.length
  | [], ff => by simp
  | r :: rs, ff => by
    have h := pushR_len x q rs (pushR x ff r)
    rw [List.foldl_cons, List.length_cons]
    have h2 : (pushR x ff r q).length ≤ (ff q).length + 1 := by unfold pushR; split <;> simp
    omega
theorem rrAll_len {F : FuncD} {M q : Nat} : ∀ k, (∀ x, x < k → (readsN F x).length ≤ M) → (rrAll F k q).length ≤ M * k
  | 0, _ => by simp [rrAll]
  | k + 1, h => by
    rw [rrAll_succ]
    have h1 := pushR_len k q (readsN F k) (rrAll F k)
    have h2 := rrAll_len (q := q) k (fun x hx => h x (by omega))
    have h3 := h k (by omega)
    rw [Nat.mul_succ]
    omega
theorem infoBack : (Tryd.prog.info? 77).map (fun i => (i.zero, i.size, i.bytes)) = some (some (.agg #[.int .i64 0, .slice none 0 0]), 2, 32) := by kernel_rfl
/-- A row of ways seen from their ends; the lists of what they write lie in blocks that Kt names. -/
def BO (w : World) (B : Nat) (v : Value) (ls : List (Nat × List Nat)) (Kt : Nat → Prop) : Prop :=
  ∃ us : List (Int × Value), us.length = ls.length ∧ w.ownsRow B 77 2 v ls.length (flat us) ∧
    ∀ i, i < ls.length → (us.getD i usZ).1 = ((ls.getD i (0, [])).1 : Int) ∧ OI w B (us.getD i usZ).2 (ints (ls.getD i (0, [])).2) ∧ ∀ g, (us.getD i usZ).2.ownBlock = some g → Kt g
theorem BO.nil (w : World) (B : Nat) (Kt : Nat → Prop) : BO w B (.slice none 0 0) [] Kt := ⟨[], rfl, World.ownsRow_nil w B _ 2, fun i h => by simp at h⟩
theorem ownsRow_lt {w : World} {B sz n g : Nat} {T : TypeId} {v : Value} {xs : List Value} (h : w.ownsRow B T sz v n xs) (hg : v.ownBlock = some g) : B ≤ g ∧ g < w.heap.size := by
  rcases h.2 with ⟨rfl, _⟩ | ⟨g', c, cur, rfl, h0, hh, _⟩
  · cases hg
  · simp only [Value.ownBlock, Option.some.injEq] at hg
    subst hg
    exact ⟨h0, (Array.getElem?_eq_some_iff.1 hh).1⟩
theorem ownsRow_block {w w' : World} {B sz n : Nat} {T : TypeId} {v : Value} {xs : List Value} (h : w.ownsRow B T sz v n xs) (hb : ∀ g, v.ownBlock = some g → w'.heap[g]? = w.heap[g]?) : w'.ownsRow B T sz v n xs := by
  refine ⟨h.1, ?_⟩
  rcases h.2 with h2 | ⟨g, c, cur, rfl, h0, hg, r⟩
  · exact .inl h2
  · exact .inr ⟨g, c, cur, rfl, h0, (hb g rfl).trans hg, r⟩
theorem BO.own_lt {w : World} {B g : Nat} {v : Value} {ls : List (Nat × List Nat)} {Kt : Nat → Prop} (h : BO w B v ls Kt) (hg : v.ownBlock = some g) : B ≤ g ∧ g < w.heap.size := by
  obtain ⟨us, _, h2, _⟩ := h
  exact ownsRow_lt h2 hg
theorem BO.step {w w' : World} {B : Nat} {v : Value} {ls : List (Nat × List Nat)} {Kt Kt' : Nat → Prop} (h : BO w B v ls Kt) (hv : ∀ g, v.ownBlock = some g → w'.heap[g]? = w.heap[g]?) (hk : ∀ g, B ≤ g → g < w.heap.size → Kt g → Kt' g ∧ w'.heap[g]? = w.heap[g]?) : BO w' B v ls Kt' := by
  obtain ⟨us, h1, h2, h3⟩ := h
  refine ⟨us, h1, ownsRow_block h2 hv, fun i hi => ?_⟩
  obtain ⟨a, b, c⟩ := h3 i hi
  exact ⟨a, OW.block b fun g hg => (hk g (OW.lt b hg).1 (OW.lt b hg).2 (c g hg)).2, fun g hg => (hk g (OW.lt b hg).1 (OW.lt b hg).2 (c g hg)).1⟩
theorem BO.type {w : World} {B g : Nat} {v : Value} {ls : List (Nat × List Nat)} {Kt : Nat → Prop} (h : BO w B v ls Kt) (hg : v.ownBlock = some g) : ∃ cur, w.heap[g]? = some (.cells cur 77 (0, 0)) := by
  obtain ⟨us, _, h2, _⟩ := h
  rcases h2.2 with ⟨rfl, _⟩ | ⟨g', c, cur, rfl, h0, hh, _⟩
  · cases hg
  · simp only [Value.ownBlock, Option.some.injEq] at hg
    subst hg
    exact ⟨cur, hh⟩
def updF {α : Type} (f : Nat → α) (k : Nat) (v : α) : Nat → α := fun x => if x = k then v else f x
theorem map_upd {α : Type} (f : Nat → α) (n k : Nat) (v : α) : ((List.range n).map f).set k v = (List.range n).map (updF f k v) := by
  refine List.ext_getElem (by simp) fun i h1 h2 => ?_
  rw [List.getElem_set]
  simp only [List.getElem_map, List.getElem_range, updF]
  by_cases e : k = i
  · rw [if_pos e, if_pos e.symm]
  · rw [if_neg e, if_neg (fun h => e h.symm)]
def outL (rho : Nat → Nat) (n m s : Nat) : List Value := (List.range n).map fun x => if x < m then .slice (some ⟨rho x, 0, none⟩) s s else .slice none 0 0
theorem outL_all (rho : Nat → Nat) (n s : Nat) : outL rho n n s = rowC rho n s := by
  unfold outL rowC
  refine List.map_congr_left fun x hx => ?_
  rw [if_pos (by simpa using hx)]
theorem outL_none (rho : Nat → Nat) (n s : Nat) : outL rho n 0 s = List.replicate n (.slice none 0 0) := by
  unfold outL
  simp only [Nat.not_lt_zero, if_false]
  refine List.ext_getElem (by simp) fun i h1 h2 => by simp
theorem outL_set (rho : Nat → Nat) {n k s b : Nat} (hk : k < n) : (outL rho n k s).set k (.slice (some ⟨b, 0, none⟩) s s) = outL (updF rho k b) n (k + 1) s := by
  unfold outL
  refine List.ext_getElem (by simp) fun i h1 h2 => ?_
  rw [List.getElem_set]
  simp only [List.getElem_map, List.getElem_range, updF]
  by_cases e : k = i
  · subst e; simp
  · rw [if_neg e]
    by_cases h : i < k
    · rw [if_pos h, if_pos (by omega), if_neg (by omega)]
    · rw [if_neg h, if_neg (by omega)]
structure LM (bO bB bR n m R s S0 : Nat) (tg rho : Nat → Nat) (BV : Nat → Value) (BB : Nat → List (Nat × List Nat)) (RV : Nat → Value) (RR : Nat → List Nat) (A : World) : Prop where
  out : Blk A bO (outL rho n m s) 52
  back : Blk A bB ((List.range n).map BV) 75
  red : Blk A bR ((List.range R).map RV) 31
  row : ∀ x, x < m → Blk A (rho x) ((List.replicate s 0).map wordV) 53
  brow : ∀ y, y < n → BO A S0 (BV y) (BB y) (fun g => tg g = 0)
  rrow : ∀ q, q < R → OI A S0 (RV q) (ints (RR q))
  tO : tg bO = 3
  tB : tg bB = 1
  tR : tg bR = 2
  trow : ∀ x, x < m → tg (rho x) = 0
  tback : ∀ y, y < n → ∀ g, (BV y).ownBlock = some g → tg g = 4 + 2 * y
  tred : ∀ q, q < R → ∀ g, (RV q).ownBlock = some g → tg g = 5 + 2 * q
  lO : S0 ≤ bO
  lB : S0 ≤ bB
  lR : S0 ≤ bR
  lrow : ∀ x, x < m → S0 ≤ rho x
  inj : ∀ x y, x < m → y < m → rho x = rho y → x = y
  fresh : ∀ b, A.heap.size ≤ b → tg b = 0
/-- One step: what bears no tag stays, and what lay below. -/
structure Stp (b0 S0 : Nat) (tg tg' : Nat → Nat) (A C : World) : Prop where
  tag : ∀ b, b < A.heap.size → tg' b = tg b
  kw : Kw (fun g => g < S0 ∨ tg g = 0) A C
section
variable {bO bB bR n m R s S0 : Nat} {tg rho : Nat → Nat} {BV : Nat → Value} {BB : Nat → List (Nat × List Nat)} {RV : Nat → Value} {RR : Nat → List Nat} {A C : World}
theorem LM.keep (h : LM bO bB bR n m R s S0 tg rho BV BB RV RR A) (hb : Below A.heap.size A C) : LM bO bB bR n m R s S0 tg rho BV BB RV RR C := by
  have hk : ∀ g, g < A.heap.size → C.heap[g]? = A.heap[g]? := fun g hg => hb.block g hg
  exact ⟨h.out.block (hk _ h.out.lt), h.back.block (hk _ h.back.lt), h.red.block (hk _ h.red.lt), fun x hx => (h.row x hx).block (hk _ (h.row x hx).lt), fun y hy => (h.brow y hy).step (fun g hg => hk g ((h.brow y hy).own_lt hg).2) (fun g _ h2 h3 => ⟨h3, hk g h2⟩), fun q hq => (h.rrow q hq).keep hb,
    h.tO, h.tB, h.tR, h.trow, h.tback, h.tred, h.lO, h.lB, h.lR, h.lrow, h.inj, fun b hb2 => h.fresh b (by have := hb.size; omega)⟩
theorem LM.newRow {arr : Array Value} (h : LM bO bB bR n m R s S0 tg rho BV BB RV RR A) (hm : m < n) (ha : arr.toList = (List.replicate s 0).map wordV) :
    LM bO bB bR n (m + 1) R s S0 tg (updF rho m A.heap.size) BV BB RV RR ((A.setCell ⟨bO, m, none⟩ (.slice (some ⟨A.heap.size, 0, none⟩) s s)).alloc (.cells arr 53)) ∧
    Stp bO S0 tg tg A ((A.setCell ⟨bO, m, none⟩ (.slice (some ⟨A.heap.size, 0, none⟩) s s)).alloc (.cells arr 53)) := by
  obtain ⟨C, hC⟩ : ∃ C, (A.setCell ⟨bO, m, none⟩ (.slice (some ⟨A.heap.size, 0, none⟩) s s)).alloc (.cells arr 53) = C := ⟨_, rfl⟩
  have hsz : C.heap.size = A.heap.size + 1 := by rw [← hC]; simp
  have hO := h.out.lt
  have hk : ∀ g, g < A.heap.size → tg g ≠ 3 → C.heap[g]? = A.heap[g]? := fun g hg ht => by
    rw [← hC, Below.heap_alloc _ _ _ (by simpa using hg)]
    exact Below.heap_setCell _ _ _ g (fun e => ht (by rw [e]; exact h.tO))
  have hrow : Blk C A.heap.size ((List.replicate s 0).map wordV) 53 := by
    rw [← hC]
    exact blk_arrS (by simp) ha
  have hout : Blk C bO (outL (updF rho m A.heap.size) n (m + 1) s) 52 := by
    rw [← hC, ← outL_set rho hm]
    exact (h.out.set m _).block (Below.heap_alloc _ _ _ (by simpa using hO))
  have hkw : Kw (fun g => g < S0 ∨ tg g = 0) A C := by
    rw [← hC]
    refine ((Kw.refl _ A).setCell _ _ (fun hr => ?_)).alloc _
    rcases hr with h1 | h1
    · have := h.lO; dsimp only at h1; omega
    · dsimp only at h1; rw [h.tO] at h1; omega
  rw [hC]
  refine ⟨⟨hout, h.back.block (hk _ h.back.lt (by rw [h.tB]; omega)), h.red.block (hk _ h.red.lt (by rw [h.tR]; omega)), fun x hx => ?_, fun y hy => (h.brow y hy).step (fun g hg => hk g ((h.brow y hy).own_lt hg).2 (by rw [h.tback y hy g hg]; omega)) (fun g _ h2 h3 => ⟨h3, hk g h2 (by rw [h3]; omega)⟩),
    fun q hq => OW.block (h.rrow q hq) fun g hg => hk g (OW.lt (h.rrow q hq) hg).2 (by rw [h.tred q hq g hg]; omega), h.tO, h.tB, h.tR, fun x hx => ?_, h.tback, h.tred, h.lO, h.lB, h.lR, fun x hx => ?_, fun x y hx hy => ?_, fun b hb => h.fresh b (by omega)⟩, fun b _ => rfl, hkw⟩
  · unfold updF
    by_cases e : x = m
    · rw [if_pos e]; exact hrow
    · rw [if_neg e]
      exact (h.row x (by omega)).block (hk _ (h.row x (by omega)).lt (by rw [h.trow x (by omega)]; omega))
  · unfold updF
    by_cases e : x = m
    · rw [if_pos e]; exact h.fresh _ (Nat.le_refl _)
    · rw [if_neg e]; exact h.trow x (by omega)
  · unfold updF
    by_cases e : x = m
    · rw [if_pos e]; have := h.lO; omega
    · rw [if_neg e]; exact h.lrow x (by omega)
  · unfold updF
    by_cases e : x = m <;> by_cases e2 : y = m
    · intro _; omega
    · rw [if_pos e, if_neg e2]
      intro h3
      have := (h.row y (by omega)).lt
      omega
    · rw [if_neg e, if_pos e2]
      intro h3
      have := (h.row x (by omega)).lt
      omega
    · rw [if_neg e, if_neg e2]
      exact h.inj x y (by omega) (by omega)
theorem LM.pushBack {o : Obj} {w' : World} {v' u : Value} {x tq : Nat} {ws : List Nat} {us : List (Int × Value)} (h : LM bO bB bR n m R s S0 tg rho BV BB RV RR A) (ht : tq < n)
    (h1 : us.length = (BB tq).length) (h3 : ∀ i, i < (BB tq).length → (us.getD i usZ).1 = (((BB tq).getD i (0, [])).1 : Int) ∧ OI A S0 (us.getD i usZ).2 (ints ((BB tq).getD i (0, [])).2) ∧ ∀ g, (us.getD i usZ).2.ownBlock = some g → tg g = 0)
    (hu : OI A S0 u (ints ws)) (hut : ∀ g, u.ownBlock = some g → tg g = 0)
    (hap : ApdS 2 (A.alloc o) w' S0 77 (BV tq) v' ((BB tq).length + 1) (flat us ++ [.int .i64 (x : Int), u])) :
    ∃ tg', LM bO bB bR n m R s S0 tg' rho (updF BV tq v') (updF BB tq (BB tq ++ [(x, ws)])) RV RR (w'.setCell ⟨bB, tq, none⟩ v') ∧ Stp bB S0 tg tg' A (w'.setCell ⟨bB, tq, none⟩ v') := by
  have hsz := hap.grown.size
  rw [World.size_alloc] at hsz
  have hBl := h.back.lt
  obtain ⟨tg', htg, hfr, hv'⟩ : ∃ tg' : Nat → Nat, (∀ b, b < A.heap.size → tg' b = tg b) ∧ (∀ b, w'.heap.size ≤ b → tg' b = 0) ∧ (∀ g, v'.ownBlock = some g → tg' g = 4 + 2 * tq) := by
    rcases hap.at_ with e | e
    · exact ⟨tg, fun _ _ => rfl, fun b hb => h.fresh b (by omega), fun g hg => h.tback tq ht g (e ▸ hg)⟩
    · rw [World.size_alloc] at e
      have hl := ownsRow_lt hap.own e
      exact ⟨fun b => if b = A.heap.size + 1 then 4 + 2 * tq else tg b, fun b hb => if_neg (by omega), fun b hb => (if_neg (by omega)).trans (h.fresh b (by omega)), fun g hg => by
        rw [hg] at e
        simp only [Option.some.injEq] at e
        exact if_pos e⟩
  have hk : ∀ g, g < A.heap.size → tg g ≠ 4 + 2 * tq → w'.heap[g]? = A.heap[g]? := fun g hg hne => by
    rw [hap.grown.block g (by rw [World.size_alloc]; omega) (fun e => hne (h.tback tq ht g e.symm))]
    exact Below.heap_alloc _ _ _ hg
  obtain ⟨C, hC⟩ : ∃ C, w'.setCell ⟨bB, tq, none⟩ v' = C := ⟨_, rfl⟩
  have hszC : C.heap.size = w'.heap.size := by rw [← hC]; simp
  have hcb : ∀ g, g ≠ bB → C.heap[g]? = w'.heap[g]? := fun g hg => by rw [← hC]; exact Below.heap_setCell _ _ _ g hg
  have hkC : ∀ g, g < A.heap.size → tg g ≠ 1 → tg g ≠ 4 + 2 * tq → C.heap[g]? = A.heap[g]? := fun g hg h1 h2 => (hcb g (fun e => h1 (by rw [e]; exact h.tB))).trans (hk g hg h2)
  have hback : Blk C bB ((List.range n).map (updF BV tq v')) 75 := by
    rw [← hC, ← map_upd]
    exact (h.back.block (hk _ hBl (by rw [h.tB]; omega))).set tq v'
  have hkw : Kw (fun g => g < S0 ∨ tg g = 0) A C := by
    rw [← hC]
    refine (((Kw.refl _ A).alloc _).grown hap.grown (fun g hg hr => ?_)).setCell _ _ (fun hr => ?_)
    · rcases hr with h1 | h1
      · have := (h.brow tq ht).own_lt hg; omega
      · rw [h.tback tq ht g hg] at h1; omega
    · rcases hr with h1 | h1
      · have := h.lB; dsimp only at h1; omega
      · dsimp only at h1; rw [h.tB] at h1; omega
  have hoi : ∀ {u2 : Value} {ws2 : List Nat}, OI A S0 u2 (ints ws2) → (∀ g, u2.ownBlock = some g → tg g = 0) → OI C S0 u2 (ints ws2) ∧ ∀ g, u2.ownBlock = some g → tg' g = 0 := fun h4 h5 =>
    ⟨OW.block h4 fun g hg => hkC g (OW.lt h4 hg).2 (by rw [h5 g hg]; omega) (by rw [h5 g hg]; omega), fun g hg => by rw [htg g (OW.lt h4 hg).2]; exact h5 g hg⟩
  rw [hC]
  refine ⟨tg', ⟨h.out.block (hkC _ h.out.lt (by rw [h.tO]; omega) (by rw [h.tO]; omega)), hback, h.red.block (hkC _ h.red.lt (by rw [h.tR]; omega) (by rw [h.tR]; omega)), fun x hx => (h.row x hx).block (hkC _ (h.row x hx).lt (by rw [h.trow x hx]; omega) (by rw [h.trow x hx]; omega)), fun y hy => ?_,
    fun q hq => OW.block (h.rrow q hq) fun g hg => hkC g (OW.lt (h.rrow q hq) hg).2 (by rw [h.tred q hq g hg]; omega) (by rw [h.tred q hq g hg]; omega), (htg _ h.out.lt).trans h.tO, (htg _ hBl).trans h.tB, (htg _ h.red.lt).trans h.tR, fun x hx => (htg _ (h.row x hx).lt).trans (h.trow x hx),
    fun y hy g hg => ?_, fun q hq g hg => (htg g (OW.lt (h.rrow q hq) hg).2).trans (h.tred q hq g hg), h.lO, h.lB, h.lR, h.lrow, h.inj, fun b hb => hfr b (by omega)⟩, htg, hkw⟩
  · unfold updF
    by_cases e : y = tq
    · rw [if_pos e, if_pos e]
      refine ⟨us ++ [((x : Int), u)], by simp [h1], ?_, fun i hi => ?_⟩
      · rw [List.length_append, List.length_singleton, flat_append]
        exact ownsRow_block hap.own fun g hg => hcb g fun e2 => by
          have h6 := hv' g hg
          rw [e2, htg _ hBl, h.tB] at h6
          omega
      · rw [getD_snoc, getD_snoc, h1]
        by_cases e3 : i = (BB tq).length
        · rw [if_pos e3, if_pos e3]
          exact ⟨rfl, hoi hu hut⟩
        · rw [if_neg e3, if_neg e3]
          have h7 := h3 i (by simp at hi; omega)
          exact ⟨h7.1, hoi h7.2.1 h7.2.2⟩
    · rw [if_neg e, if_neg e]
      exact (h.brow y hy).step (fun g hg => hkC g ((h.brow y hy).own_lt hg).2 (by rw [h.tback y hy g hg]; omega) (by rw [h.tback y hy g hg]; omega)) (fun g _ h8 h9 => ⟨by rw [htg g h8]; exact h9, hkC g h8 (by rw [h9]; omega) (by rw [h9]; omega)⟩)
  · unfold updF at hg
    by_cases e : y = tq
    · rw [if_pos e] at hg
      rw [e]; exact hv' g hg
    · rw [if_neg e] at hg
      rw [htg g ((h.brow y hy).own_lt hg).2]
      exact h.tback y hy g hg
theorem LM.pushRead {o : Obj} {w' : World} {v' : Value} {x q : Nat} (h : LM bO bB bR n m R s S0 tg rho BV BB RV RR A) (hq : q < R)
    (hap : Apd (A.alloc o) w' S0 3 (RV q) v' ((ints (RR q)).length + 1) ((ints (RR q)).map (Value.int .i64) ++ [.int .i64 (x : Int)])) :
    ∃ tg', LM bO bB bR n m R s S0 tg' rho BV BB (updF RV q v') (updF RR q (RR q ++ [x])) (w'.setCell ⟨bR, q, none⟩ v') ∧ Stp bR S0 tg tg' A (w'.setCell ⟨bR, q, none⟩ v') := by
  have hsz := hap.grown.size
  rw [World.size_alloc] at hsz
  have hBl := h.red.lt
  have hown : OI w' S0 v' (ints (RR q ++ [x])) := by rw [ints_snoc]; exact own_apd hap
  obtain ⟨tg', htg, hfr, hv'⟩ : ∃ tg' : Nat → Nat, (∀ b, b < A.heap.size → tg' b = tg b) ∧ (∀ b, w'.heap.size ≤ b → tg' b = 0) ∧ (∀ g, v'.ownBlock = some g → tg' g = 5 + 2 * q) := by
    rcases hap.at_ with e | e
    · exact ⟨tg, fun _ _ => rfl, fun b hb => h.fresh b (by omega), fun g hg => h.tred q hq g (e ▸ hg)⟩
    · rw [World.size_alloc] at e
      have hl := OW.lt hown e
      exact ⟨fun b => if b = A.heap.size + 1 then 5 + 2 * q else tg b, fun b hb => if_neg (by omega), fun b hb => (if_neg (by omega)).trans (h.fresh b (by omega)), fun g hg => by
        rw [hg] at e
        simp only [Option.some.injEq] at e
        exact if_pos e⟩
  have hk : ∀ g, g < A.heap.size → tg g ≠ 5 + 2 * q → w'.heap[g]? = A.heap[g]? := fun g hg hne => by
    rw [hap.grown.block g (by rw [World.size_alloc]; omega) (fun e => hne (h.tred q hq g e.symm))]
    exact Below.heap_alloc _ _ _ hg
  obtain ⟨C, hC⟩ : ∃ C, w'.setCell ⟨bR, q, none⟩ v' = C := ⟨_, rfl⟩
  have hszC : C.heap.size = w'.heap.size := by rw [← hC]; simp
  have hcb : ∀ g, g ≠ bR → C.heap[g]? = w'.heap[g]? := fun g hg => by rw [← hC]; exact Below.heap_setCell _ _ _ g hg
  have hkC : ∀ g, g < A.heap.size → tg g ≠ 2 → tg g ≠ 5 + 2 * q → C.heap[g]? = A.heap[g]? := fun g hg h1 h2 => (hcb g (fun e => h1 (by rw [e]; exact h.tR))).trans (hk g hg h2)
  have hred : Blk C bR ((List.range R).map (updF RV q v')) 31 := by
    rw [← hC, ← map_upd]
    exact (h.red.block (hk _ hBl (by rw [h.tR]; omega))).set q v'
  have hkw : Kw (fun g => g < S0 ∨ tg g = 0) A C := by
    rw [← hC]
    refine (((Kw.refl _ A).alloc _).grown hap.grown (fun g hg hr => ?_)).setCell _ _ (fun hr => ?_)
    · rcases hr with h1 | h1
      · have := OW.lt (h.rrow q hq) hg; omega
      · rw [h.tred q hq g hg] at h1; omega
    · rcases hr with h1 | h1
      · have := h.lR; dsimp only at h1; omega
      · dsimp only at h1; rw [h.tR] at h1; omega
  rw [hC]
  refine ⟨tg', ⟨h.out.block (hkC _ h.out.lt (by rw [h.tO]; omega) (by rw [h.tO]; omega)), h.back.block (hkC _ h.back.lt (by rw [h.tB]; omega) (by rw [h.tB]; omega)), hred, fun x hx => (h.row x hx).block (hkC _ (h.row x hx).lt (by rw [h.trow x hx]; omega) (by rw [h.trow x hx]; omega)),
    fun y hy => (h.brow y hy).step (fun g hg => hkC g ((h.brow y hy).own_lt hg).2 (by rw [h.tback y hy g hg]; omega) (by rw [h.tback y hy g hg]; omega)) (fun g _ h8 h9 => ⟨by rw [htg g h8]; exact h9, hkC g h8 (by rw [h9]; omega) (by rw [h9]; omega)⟩), fun z hz => ?_,
    (htg _ h.out.lt).trans h.tO, (htg _ h.back.lt).trans h.tB, (htg _ hBl).trans h.tR, fun x hx => (htg _ (h.row x hx).lt).trans (h.trow x hx),
    fun y hy g hg => (htg g ((h.brow y hy).own_lt hg).2).trans (h.tback y hy g hg), fun z hz g hg => ?_, h.lO, h.lB, h.lR, h.lrow, h.inj, fun b hb => hfr b (by omega)⟩, htg, hkw⟩
  · unfold updF
    by_cases e : z = q
    · rw [if_pos e, if_pos e]
      exact OW.block hown fun g hg => hcb g fun e2 => by
        have h6 := hv' g hg
        rw [e2, htg _ hBl, h.tR] at h6
        omega
    · rw [if_neg e, if_neg e]
      exact OW.block (h.rrow z hz) fun g hg => hkC g (OW.lt (h.rrow z hz) hg).2 (by rw [h.tred z hz g hg]; omega) (by rw [h.tred z hz g hg]; omega)
  · unfold updF at hg
    by_cases e : z = q
    · rw [if_pos e] at hg
      rw [e]; exact hv' g hg
    · rw [if_neg e] at hg
      rw [htg g (OW.lt (h.rrow z hz) hg).2]
      exact h.tred z hz g hg
end
end
section
open Go Go.ChangeShapes Go.WideShapes Go.RowKit
set_option linter.unusedVariables false
set_option linter.unusedSimpArgs false
attribute [local go_sem] Oper.semAt_some
theorem infoSlBk : (Tryd.prog.info? 75).map (fun i => (i.zero, i.size, i.bytes)) = some (some (.slice none 0 0), 1, 24) := by kernel_rfl
section
variable {P : Program} {w : World} {base : Nat} {t ty e : TypeId} {z : Value} {sz bytes : Nat} {v x : Value} {n m : Nat} {xs news : List Value}
theorem wpIn_appS {o : Oper} {a : Act} {K : Act → World → Prop} {Q : Exit → Act → World → Prop} (s y : Operand) (ho : o.op = .call { callee := .builtin .append, args := #[s, y], argTypes := #[t, t] })
    (ht : P.underlying t = some (.slice e)) (hinfo : (P.info? e).map (fun i => (i.zero, i.size, i.bytes)) = some (some z, sz, bytes)) (hz1 : z.cells.size = sz) (hsz0 : 0 < sz) (hv : a.eval s = v)
    (hown : w.ownsRow base e sz v n xs) (hx : a.eval y = x) (hs : SrcS sz w x m news) (h1 : ∀ u ∈ news, u.oneCell' = true) (h63 : n + m ≤ maxLen) (hbytes : (n + m) * bytes ≤ 140737488355328) (hbase : base ≤ w.heap.size)
    (h : ∀ v' w', ApdS sz w w' base e v v' (n + m) (xs ++ news) → K (a.put o.dst v') w') : o.wpIn Fence.wide 0 P a w K Q := by
  obtain ⟨v', w', hr, h2⟩ := run_appS (P := P) (ty := o.type) ht hinfo hz1 hsz0 hown hs h1 h63 hbytes hbase
  refine ⟨fun _ _ => trivial, ?_⟩
  rw [Fence.wide_round, Oper.semAt_none]
  simp [execOp, ho, resolve, invoke, builtin, hv, hx, hr, Result.andThen]
  exact h v' w' h2
theorem wpIn_appI {o : Oper} {a : Act} {K : Act → World → Prop} {Q : Exit → Act → World → Prop} (s y : Operand) (ho : o.op = .call { callee := .builtin .append, args := #[s, y], argTypes := #[t, t] })
    (ht : P.underlying t = some (.slice e)) (hinfo : (P.info? e).map (fun i => (i.zero, i.size, i.bytes)) = some (some z, 1, bytes)) (hz1 : z.cells.size = 1) (hv : a.eval s = v)
    (hown : w.ownsRow base e 1 v n xs) (hx : a.eval y = x) (hs : Src w x m news) (h1 : ∀ u ∈ news, u.oneCell' = true) (h63 : n + m ≤ maxLen) (hbytes : (n + m) * bytes ≤ 140737488355328) (hbase : base ≤ w.heap.size)
    (h : ∀ v' w', Apd w w' base e v v' (n + m) (xs ++ news) → K (a.put o.dst v') w') : o.wpIn Fence.wide 0 P a w K Q := by
  obtain ⟨v', w', hr, h2⟩ := run_app (P := P) (ty := o.type) ht hinfo hz1 hown hs h1 h63 hbytes hbase
  refine ⟨fun _ _ => trivial, ?_⟩
  rw [Fence.wide_round, Oper.semAt_none]
  simp [execOp, ho, resolve, invoke, builtin, hv, hx, hr, Result.andThen]
  exact h v' w' h2
end
theorem pushW_upd (x tw : Nat) (ff : Nat → List (Nat × List Nat)) (ws : List Nat) : pushW x ff (tw, ws) = updF ff tw (ff tw ++ [(x, ws)]) := by
  funext y
  unfold pushW updF
  by_cases e : y = tw
  · subst e; simp
  · simp [e]
theorem pushR_upd (x q : Nat) (ff : Nat → List Nat) : pushR x ff q = updF ff q (ff q ++ [x]) := by
  funext y
  unfold pushR updF
  by_cases e : y = q
  · subst e; simp
  · simp [e]
theorem own_ne_u64 {w : World} {B g b : Nat} {v : Value} {ls : List Int} {cs : List Value} (h : OI w B v ls) (hg : v.ownBlock = some g) (hb : Blk w b cs 53) : g ≠ b := by
  rintro rfl
  rcases h.2 with ⟨rfl, _⟩ | ⟨g', c, cur, rfl, _, hh, _⟩
  · cases hg
  · simp only [Value.ownBlock, Option.some.injEq] at hg
    subst hg
    unfold Blk at hb
    rw [hh] at hb
    simp only [Option.some.injEq, Obj.cells.injEq] at hb
    exact absurd hb.2.1 (by decide)
theorem LM.sb {bO bB bR n R s S0 : Nat} {tg rho : Nat → Nat} {BV : Nat → Value} {BB : Nat → List (Nat × List Nat)} {RV : Nat → Value} {RR : Nat → List Nat} {A W : World} (h : LM bO bB bR n n R s S0 tg rho BV BB RV RR A)
    (hk : Kw (fun b => ∀ x, x < n → b ≠ rho x) A W) (hl : ∀ y, y < n → ∀ p ∈ BB y, p.2.length ≤ 17592186044416) : SB W bB n BB := fun y hy => by
  have hkt : ∀ g, g < A.heap.size → tg g ≠ 0 → W.heap[g]? = A.heap[g]? := fun g hg ht => hk.block g (fun x hx e => ht (by rw [e]; exact h.trow x hx)) hg
  have hcB : W.cell? ⟨bB, y, none⟩ = some (BV y) := (World.cell?_of_block (a := ⟨bB, y, none⟩) (hkt bB h.back.lt (by rw [h.tB]; omega))).trans (h.back.cell (i := y) (v := BV y) (by rw [List.getElem?_map, List.getElem?_range hy]; rfl))
  have htb := h.tback y hy
  obtain ⟨us, h1, h2, h3⟩ := h.brow y hy
  obtain ⟨p, c, hp⟩ := owns_form h2
  rw [hp] at h2 hcB htb
  refine ⟨p, c, hcB, fun i hi => ?_⟩
  rcases h2.2 with ⟨h4, h5⟩ | ⟨g, c', cur, h4, h0, hg, r⟩
  · omega
  · simp only [Value.slice.injEq] at h4
    obtain ⟨rfl, _, rfl⟩ := h4
    obtain ⟨a1, a2, a3⟩ := h3 i hi
    have hgl := (Array.getElem?_eq_some_iff.1 hg).1
    have hgw : W.heap[g]? = A.heap[g]? := hkt g hgl (by rw [htb g rfl]; omega)
    have hu : OI W S0 (us.getD i usZ).2 (ints ((BB y).getD i (0, [])).2) := OW.block a2 fun g2 hg2 => hk.block g2 (fun x hx e => own_ne_u64 a2 hg2 (h.row x hx) e) (OW.lt a2 hg2).2
    refine ⟨g, (us.getD i usZ).2, rfl, (World.cell?_of_block (a := ⟨g, i * 2, none⟩) hgw).trans ?_, (World.cell?_of_block (a := ⟨g, i * 2 + 1, none⟩) hgw).trans ?_, hu.mine.ri ?_⟩
    · have h6 := h2.cells (g := g) rfl (i * 2) _ (flat_at us i (by omega)).1
      rw [← a1]
      have e : (⟨g, 0, none⟩ : Addr).add (i * 2) = ⟨g, i * 2, none⟩ := by unfold Addr.add; split <;> simp_all
      rw [e] at h6
      rw [h6, List.getD_eq_getElem?_getD, List.getElem?_eq_getElem (by omega)]; rfl
    · have h6 := h2.cells (g := g) rfl (i * 2 + 1) _ (flat_at us i (by omega)).2
      have e : (⟨g, 0, none⟩ : Addr).add (i * 2 + 1) = ⟨g, i * 2 + 1, none⟩ := by unfold Addr.add; split <;> simp_all
      rw [e] at h6
      rw [h6, List.getD_eq_getElem?_getD, List.getElem?_eq_getElem (by omega)]; rfl
    · rw [ints_len]
      exact hl y hy _ (by rw [List.getD_eq_getElem?_getD, List.getElem?_eq_getElem hi]; simp)
theorem ways_wl {F : FuncD} {w : World} {iv : Value} (hS : SoundF F) (hI : Ii w iv F.ins) {x : Nat} (hx : x < F.ins.length) {v : Nat × List Nat} (hv : v ∈ waysN F x) : v.2.length ≤ 17592186044416 := by
  obtain ⟨i, hi, rfl⟩ := List.getElem_of_mem hv
  have hi2 : i < (waysD F x).length := by rw [← waysN_len]; exact hi
  obtain ⟨tw, ws, h1, h2, _, _⟩ := hS.at_ hx hi2
  rw [List.getD_eq_getElem?_getD, List.getElem?_eq_getElem hi] at h1
  simp only [Option.getD_some] at h1
  rw [h1]
  have hmem : ((tw : Int), ints ws) ∈ waysD F x := by
    rw [← h2, List.getD_eq_getElem?_getD, List.getElem?_eq_getElem hi2]; simp
  have h3 := ways_wlen F x _ hmem
  have h4 := ii_len hI hx
  dsimp only at h3
  rw [ints_len] at h3
  show ws.length ≤ _
  omega
/-- What the rounds over the registers hold. -/
structure SpG (F : FuncD) (s bO : Nat) (rho : Nat → Nat) (wP : World) (q : Nat) (L : List (List Nat)) (W : World) : Prop where
  wl : Wl bO F.ins.length s rho W L
  kw : Kw (fun b => ∀ x, x < F.ins.length → b ≠ rho x) wP W
  ok : OkL (grOf F) L
  lo : ∀ y, y < F.ins.length → ∀ z, z < q → (hasW (L.getD y []) z = true ↔ Lv (grOf F) y z)
  hi : ∀ y, y < F.ins.length → ∀ z, q ≤ z → hasW (L.getD y []) z = false
/-- What the rounds of Live hold while it gathers: ahead of instruction k, of its ways j are done. -/
structure LvG (F : FuncD) (s S0 bO : Nat) (w1 : World) (m : Nat) (BB : Nat → List (Nat × List Nat)) (RR : Nat → List Nat) (tg : Nat → Nat) (A : World) : Prop where
  lm : ∃ rho BV RV, LM bO (bO + 1) (bO + 2) F.ins.length m F.regs.toNat s S0 tg rho BV BB RV RR A
  low : Below S0 w1 A
set_option maxRecDepth 100000 in
set_option maxHeartbeats 8000000 in
theorem rlive_any (r : RestV) (F : FuncD) (iv rv : Value) (hs : soundB F = true) (hnn : F.ins.length ≤ 1048576) (hll : ∀ x, x < F.ins.length → (readsN F x).length ≤ 2097152) (w : World) (hU : Us w) (hI : Ii w iv F.ins) (hR : Rg w rv F.regions) :
    Calls Tryd.prog 25 #[funcV r F iv rv] w fun e B => ∃ v L, e = .returned v ∧ Rr B v L ∧ OkL (grOf F) L ∧ (∀ y, y < F.ins.length → ∀ q, hasW (L.getD y []) q = true ↔ Lv (grOf F) y q) ∧ Below w.heap.size w B := by
  have HWR := rways_any r F iv rv
  obtain ⟨p, c, rfl, _, _, hpi⟩ := ii_form hI
  obtain ⟨p2, c2, rfl, _, _, _⟩ := rg_form hR
  unfold funcV at HWR ⊢
  replace HWR := Lib.hid HWR
  have HPI := Lib.hid hpi
  have HX := Lib.hid (Box10.new w r F (.slice p F.ins.length c) (.slice p2 F.regions.length c2) 27)
  have HB0 := Lib.hid (show Below w.heap.size w (w.alloc (.cells #[.string r.name, .int .i64 F.params, .int .i64 F.regs, .int .i64 r.frees, .bool r.gen, .int .i64 r.bound, .slice r.np r.nn r.nc, .slice r.cp r.cn r.cc, .slice p F.ins.length c, .slice p2 F.regions.length c2] 27)) from by ((repeat' (first | with_reducible assumption | with_reducible exact Below.refl _ _ | with_reducible refine Below.drew ?_ | with_reducible refine Below.alloc ?_ (by first | omega | (simp; omega) | (simp; done) | fail) _ | with_reducible refine Below.setCell ?_ (by first | omega | (simp; omega) | (simp; done) | fail) _ | fail)); (first | done | fail)))
  have HU := Lib.hid hU
  have HI := Lib.hid hI
  have HR := Lib.hid hR
  have HSF := Lib.hid (soundF hs)
  have hr0 := HSF.out.r0
  have hr1 := HSF.out.r1
  have hnp := HSF.out.pos
  have HLL := Lib.hid hll
  obtain ⟨R, hRe⟩ : ∃ R, F.regs.toNat = R := ⟨_, rfl⟩
  have hRz : F.regs = (R : Int) := by omega
  have hR64 : R ≤ 65536 := by omega
  obtain ⟨s, hse⟩ : ∃ s, (grOf F).s = s := ⟨_, rfl⟩
  have hs63 : s = (R + 63) / 64 := by rw [← hse, ← hRe]; rfl
  have hs4 : s ≤ 1024 := by omega
  have ew : (F.regs + 63) / 64 = (s : Int) := by omega
  have hm1 := mk_row Tryd.underlying43 infoSlU rfl F.ins.length (by omega) (by omega)
  have hm2 := mk_row Tryd.underlying74 infoSlBk rfl F.ins.length (by omega) (by omega)
  have hm3 : ∀ wx : World, (Instr.makeSlice 70 (.int .i64 F.regs) (.int .i64 F.regs)).run Tryd.prog wx = .ok (.slice (some ⟨wx.heap.size, 0, none⟩) R R) (wx.alloc (.cells (List.replicate R (.slice none 0 0)).toArray 31)) := fun wx => by
    rw [hRz]; exact mk_row Tryd.underlying70 infoSlI rfl R (by omega) (by omega) wx
  have hm4 := mk_row Tryd.underlying52 infoU64L rfl s (by omega) (by omega)
  have HRE := Lib.hid hRe
  have HRZ := Lib.hid hRz
  have HSE := Lib.hid hse
  have HS63 := Lib.hid hs63
  clear hU hI hR hpi hs hll hRe hse hRz hs63
  go_enter Tryd.func25, Tryd.ntmps25
  go_wp2_with fail
  obtain ⟨bO, hbO⟩ : ∃ bO, w.heap.size + 1 = bO := ⟨_, rfl⟩
  generalize hw1 : w.alloc (.cells #[.string r.name, .int .i64 F.params, .int .i64 F.regs, .int .i64 r.frees, .bool r.gen, .int .i64 r.bound, .slice r.np r.nn r.nc, .slice r.cp r.cn r.cc, .slice p F.ins.length c, .slice p2 F.regions.length c2] 27) = w1 at HX HB0
  have hz1 : w1.heap.size = bO := by rw [← hw1, ← hbO]; simp
  have HST := Lib.hid (show LvG F s bO bO w1 0 (bbAll F 0) (rrAll F 0) (fun b => if b = bO then 3 else if b = bO + 1 then 1 else if b = bO + 2 then 2 else 0) (((w1.alloc (.cells (Array.replicate F.ins.length (.slice none 0 0)) 52)).alloc (.cells (Array.replicate F.ins.length (.slice none 0 0)) 75)).alloc (.cells (Array.replicate R (.slice none 0 0)) 31)) from by
    have hb : Below bO w1 (((w1.alloc (.cells (Array.replicate F.ins.length (.slice none 0 0)) 52)).alloc (.cells (Array.replicate F.ins.length (.slice none 0 0)) 75)).alloc (.cells (Array.replicate R (.slice none 0 0)) 31)) := by rw [← hz1]; ((repeat' (first | with_reducible assumption | with_reducible exact Below.refl _ _ | with_reducible refine Below.drew ?_ | with_reducible refine Below.alloc ?_ (by first | omega | (simp; omega) | (simp; done) | fail) _ | with_reducible refine Below.setCell ?_ (by first | omega | (simp; omega) | (simp; done) | fail) _ | fail)); (first | done | fail))
    refine ⟨⟨fun _ => 0, fun _ => .slice none 0 0, fun _ => .slice none 0 0, ?_, ?_, ?_, fun x hx => (by omega), fun y hy => BO.nil _ _ _, fun q hq => OW.nil _ _, by simp, by simp, by simp, fun x hx => (by omega), fun y hy g hg => (by cases hg), fun q hq g hg => (by cases hg), Nat.le_refl _, by omega, by omega, fun x hx => (by omega), fun x y hx => (by omega), fun b hb => ?_⟩, hb⟩
    · exact ((blk_arrS (A := w1) (l := outL (fun _ => 0) F.ins.length 0 s) hz1.symm (by rw [outL_none]; simp)).block (Below.heap_alloc _ _ _ (by simp [hz1]))).block (Below.heap_alloc _ _ _ (by simp [hz1]; omega))
    · exact (blk_arrS (A := w1.alloc _) (l := (List.range F.ins.length).map fun _ => .slice none 0 0) (by simp [hz1]) (by simp [List.map_const'])).block (Below.heap_alloc _ _ _ (by simp [hz1]))
    · exact blk_arrS (l := (List.range F.regs.toNat).map fun _ => .slice none 0 0) (by simp [hz1]) (by simp [List.map_const', HRE.out])
    · simp [hz1] at hb
      rw [if_neg (by omega), if_neg (by omega), if_neg (by omega)])
  rw [hbO, ew]
  have hbw : w.heap.size < bO := by omega
  go_loopw [7] (fun s7 wx => ∃ (k : Nat) (tg : Nat → Nat), s7 = .int .i64 k ∧ k ≤ F.ins.length ∧ LvG F s bO bO w1 k (bbAll F k) (rrAll F k) tg wx) (fun s7 _ => F.ins.length - (intOf s7).toNat)
  case atStart => exact ⟨0, _, rfl, Nat.zero_le _, HST.out⟩
  case round =>
    obtain ⟨k, tg, rfl, hk, hlv⟩ := hrel
    obtain ⟨⟨rho, BV, RV, hlm⟩, hlow⟩ := hlv
    have HLM := Lib.hid hlm
    have HLOW := Lib.hid hlow
    have hbl := hlm.out.lt
    have hsz0 := hlow.size
    rw [hz1] at hsz0
    obtain ⟨y0, y1, y2, y3, y4, y5, y6, y7, y8, y9⟩ := (HX.out.keep hlow hbw).all
    by_cases hlt : k < F.ins.length
    · have hnr := hlm.newRow (arr := Array.replicate s (.int .u64 0)) hlt (by simp [wordV])
      obtain ⟨hlm1, hst1⟩ := hnr
      have hfo := hlm.out.frozen k
      obtain ⟨v0, hc0⟩ : ∃ v0, wr.cell? ⟨bO, k, none⟩ = some v0 := ⟨_, hlm.out.cell (i := k) (by unfold outL; rw [List.getElem?_map, List.getElem?_range hlt]; rfl)⟩
      have hkz : (k : Int) < (F.ins.length : Int) := by omega
      have hlow1 := hlow.trans ((hst1.kw.below (n := bO) (by omega) (fun b hb => .inl hb)).mono (by omega))
      obtain ⟨C, hC⟩ : ∃ C, (wr.setCell ⟨bO, k, none⟩ (.slice (some ⟨wr.heap.size, 0, none⟩) s s)).alloc (.cells (Array.replicate s (.int .u64 0)) 53) = C := ⟨_, rfl⟩
      have hszC : C.heap.size = wr.heap.size + 1 := by rw [← hC]; simp
      obtain ⟨x0, x1, x2, x3, x4, x5, x6, x7, x8, x9⟩ := (HX.out.keep hlow1 hbw).all
      have hlw1 : Below w.heap.size w C := HB0.out.trans ((hC ▸ hlow1).mono (by omega))
      have HWY := Lib.hid (HWR.out k C (HU.out.keep hlw1) (HI.out.keep hlw1) (HR.out.keep hlw1) hlt)
      have HLW1 := Lib.hid hlw1
      rw [hC] at hlm1 hst1 hlow1
      have HLM1 := Lib.hid hlm1
      have HLOW1 := Lib.hid hlow1
      have HCE := Lib.hid hC
      rw [← hC] at HWY
      clear hlm1 hst1 hlow1 hlw1 hlm hlow hC
      go_wp2_with (first
        | (go_at_call 20; (with_reducible refine HWY.out.mono ?_); rintro e wD ⟨uD, rfl, hwo, hbD⟩; have HWO := Lib.hid hwo; obtain ⟨pD, cD, rfl, hcD⟩ := way_form hwo; have HBD := Lib.hid hbD; clear hwo hcD hbD x0 x1 x2 x3 x4 x5 x6 x7 x8 x9 y0 y1 y2 y3 y4 y5 y6 y7 y8 y9)
        | fail)
      rw [HCE.out] at HWO HBD
      have hsD := HBD.out.size
      have hw3 := waysD_le F k
      have hwlN := waysN_len F k
      clear hc0 hfo
      obtain ⟨wA, rfl⟩ : ∃ wA : World, wA = wr := ⟨_, rfl⟩
      go_loopw [9] (fun s9 wx => ∃ (j : Nat) (tg : Nat → Nat), s9 = .int .i64 j ∧ j ≤ (waysD F k).length ∧ LvG F s bO bO w1 (k + 1) (((waysN F k).take j).foldl (pushW k) (bbAll F k)) (rrAll F k) tg wx ∧ (∀ g, C.heap.size ≤ g → g < wD.heap.size → tg g = 0) ∧ Kw (fun g => C.heap.size ≤ g ∧ g < wD.heap.size) wD wx) (fun s9 _ => (waysD F k).length - (intOf s9).toNat)
      case atStart => exact ⟨0, tg, rfl, Nat.zero_le _, ⟨⟨_, BV, RV, HLM1.out.keep HBD.out⟩, HLOW1.out.trans (HBD.out.mono (by omega))⟩, fun g h1 _ => HLM.out.fresh g (by omega), Kw.refl _ _⟩
      case round =>
        obtain ⟨j, tgj, rfl, hj, ⟨⟨rhoj, BVj, RVj, hlmj⟩, hlowj⟩, htj, hkw⟩ := hrel
        have hszj := hkw.size
        have HLMJ := Lib.hid hlmj
        have HLOWJ := Lib.hid hlowj
        have HTJ := Lib.hid htj
        have HKW := Lib.hid hkw
        by_cases hjl : j < (waysD F k).length
        · obtain ⟨bD, u, rfl, q1, q2, q3⟩ := way_cellS HWO.out hjl
          obtain ⟨tw, ws, hwn, hwd, htw, hws⟩ := HSF.out.at_ hlt hjl
          have hbD : C.heap.size ≤ bD ∧ bD < wD.heap.size := by
            obtain ⟨us', _, h2, _⟩ := HWO.out
            exact ownsRow_lt h2 rfl
          rw [hwd] at q1 q3
          obtain ⟨pU, cU, rfl⟩ := own_form q3
          dsimp only at q1
          have g1 := (World.cell?_of_block (a := ⟨bD, j * 2, none⟩) (hkw.block bD hbD hbD.2)).trans q1
          have g2 := (World.cell?_of_block (a := ⟨bD, j * 2 + 1, none⟩) (hkw.block bD hbD hbD.2)).trans q2
          have g3 : OI wr C.heap.size _ _ := OW.kw q3 hkw (fun g hg => OW.lt q3 hg)
          have HUT := Lib.hid (show ∀ g, (Value.slice pU (ints ws).length cU).ownBlock = some g → tgj g = 0 from fun g hg => htj g (OW.lt q3 hg).1 (OW.lt q3 hg).2)
          rw [ints_len] at g2 g3 HUT
          clear q1 q2 q3
          obtain ⟨us, hu1, hu2, hu3⟩ := hlmj.brow tw htw
          have hbln := blens_fold k F.ins.length ((waysN F k).take j) (bbAll F k)
          have hbla := blens_all F F.ins.length k
          have hblt := blens_at (BB := ((waysN F k).take j).foldl (pushW k) (bbAll F k)) F.ins.length htw
          rw [List.length_take] at hbln
          have HPS := Lib.hid (take_fold (by rw [waysN_len]; exact hjl) hwn (pushW k) (bbAll F k))
          have htb := hlmj.tback tw htw
          have hcB := hlmj.back.cell (i := tw) (v := BVj tw) (by rw [List.getElem?_map, List.getElem?_range htw]; rfl)
          have hfB := hlmj.back.frozen tw
          obtain ⟨BBj, hBB⟩ : ∃ BBj, ((waysN F k).take j).foldl (pushW k) (bbAll F k) = BBj := ⟨_, rfl⟩
          rw [hBB] at HLMJ HPS hu1 hu2 hu3 hblt hbln
          obtain ⟨nb, hnb⟩ : ∃ nb, (BBj tw).length = nb := ⟨_, rfl⟩
          rw [hnb] at hu2 hblt
          have hnbl : nb ≤ 4194304 := by omega
          obtain ⟨pv, cv, hpv⟩ := owns_form hu2
          have HPV := Lib.hid hpv
          rw [hpv] at hu2 hcB htb
          have hBl := hlmj.back.lt
          have hOl := hlmj.lB
          have htB := hlmj.tB
          have hne : ∀ g, (Value.slice pv nb cv).ownBlock = some g → g ≠ bD ∧ g ≠ bO + 1 ∧ bO ≤ g := fun g hg => by
            have h1 := htb g hg
            refine ⟨fun e => ?_, fun e => ?_, (ownsRow_lt hu2 hg).1⟩
            · rw [e, htj bD hbD.1 hbD.2] at h1; omega
            · rw [e, htB] at h1; omega
          have HNE := Lib.hid hne
          have HU2 := Lib.hid hu2
          have HU3 := Lib.hid hu3
          have HG3 := Lib.hid g3
          have hjz : (j : Int) < ((waysD F k).length : Int) := by omega
          have htz : (tw : Int) < (F.ins.length : Int) := by omega
          have hT : wr.drew.cell? ⟨bD, j * 2, none⟩ = some (.int .i64 tw) ∧ wr.drew.cell? ⟨bD, j * 2 + 1, none⟩ = some (.slice pU ws.length cU) ∧ wr.drew.cell? ⟨bO + 1, tw, none⟩ = some (.slice pv nb cv) := ⟨g1, g2, hcB⟩
          obtain ⟨z1, z2, z3⟩ := hT
          have zz3 := alloc_cell z3 (.cells #[.int .i64 k, .slice pU ws.length cU] 77)
          have hBlA := HLM.out.back.lt
          have hbne : bD ≠ bO + 1 := by omega
          clear hlmj hlowj htj hkw hwn hwd hws hu2 hu3 g3 hpv hne htb htB hbln hbla hBB
          go_wp2_with fail
          refine wp_region_anyU (S := fun w' => w'.cell? ⟨bD, j * 2, none⟩ = some (.int .i64 tw) ∧ w'.cell? ⟨bD, j * 2 + 1, none⟩ = some (.slice pU ws.length cU) ∧ w'.cell? ⟨bO + 1, tw, none⟩ = some (.slice pv nb cv)) 24 (by kernel_rfl) ⟨by kernel_rfl, by kernel_rfl, by kernel_rfl, by kernel_rfl, by decide⟩ ⟨z1, z2, z3⟩ ?_
          simp only [List.drop_succ_cons, List.drop_zero]
          intro hh inv hS0
          refine anyU_take hh inv (i := 0) (v := ?_) rfl (by decide) (by kernel_rfl) (by kernel_rfl) (fun _ _ _ h => h) (Or.inl ⟨by rfl, ?_⟩) (by assumption) ?_
          rotate_left 1
          · intro w' hSw
            (try dsimp only at hSw)
            go_simp
            (try with_reducible rfl)
          intro inv
          (try simp only [List.getElem_toArray, List.getElem_cons_succ, List.getElem_cons_zero, Act.put, List.setIfInBounds_toArray, List.set_cons_zero, List.set_cons_succ])
          refine anyU_take hh inv (i := 1) (v := ?_) rfl (by decide) (by kernel_rfl) (by kernel_rfl) (fun _ _ _ h => h) (Or.inl ⟨by rfl, ?_⟩) (by assumption) ?_
          rotate_left 1
          · intro w' hSw
            (try dsimp only at hSw)
            go_simp
            (try with_reducible rfl)
          intro inv
          (try simp only [List.getElem_toArray, List.getElem_cons_succ, List.getElem_cons_zero, Act.put, List.setIfInBounds_toArray, List.set_cons_zero, List.set_cons_succ])
          refine anyU_take hh inv (i := 2) (v := ?_) rfl (by decide) (by kernel_rfl) (by kernel_rfl) (fun _ _ _ h => h) (Or.inl ⟨by rfl, ?_⟩) (by assumption) ?_
          rotate_left 1
          · intro w' hSw
            (try dsimp only at hSw)
            go_simp
            (try with_reducible rfl)
          intro inv
          (try simp only [List.getElem_toArray, List.getElem_cons_succ, List.getElem_cons_zero, Act.put, List.setIfInBounds_toArray, List.set_cons_zero, List.set_cons_succ])
          refine anyU_take hh inv (i := 3) (v := ?_) rfl (by decide) (by kernel_rfl) (by kernel_rfl) (fun _ _ _ h => h) (Or.inl ⟨by rfl, ?_⟩) (by assumption) ?_
          rotate_left 1
          · intro w' hSw
            (try dsimp only at hSw)
            go_simp
            (try with_reducible rfl)
          intro inv
          (try simp only [List.getElem_toArray, List.getElem_cons_succ, List.getElem_cons_zero, Act.put, List.setIfInBounds_toArray, List.set_cons_zero, List.set_cons_succ])
          refine anyU_take hh inv (i := 4) (v := ?_) rfl (by decide) (by kernel_rfl) (by kernel_rfl) (fun _ _ _ h => h) (Or.inl ⟨by rfl, ?_⟩) (by assumption) ?_
          rotate_left 1
          · intro w' hSw
            (try dsimp only at hSw)
            go_simp
            (try with_reducible rfl)
          intro inv
          (try simp only [List.getElem_toArray, List.getElem_cons_succ, List.getElem_cons_zero, Act.put, List.setIfInBounds_toArray, List.set_cons_zero, List.set_cons_succ])
          refine anyU_take hh inv (i := 5) (v := ?_) rfl (by decide) (by kernel_rfl) (by kernel_rfl) (fun _ _ _ h => h) (Or.inl ⟨by rfl, ?_⟩) (by assumption) ?_
          rotate_left 1
          · intro w' hSw
            (try dsimp only at hSw)
            go_simp
            (try with_reducible rfl)
          intro inv
          (try simp only [List.getElem_toArray, List.getElem_cons_succ, List.getElem_cons_zero, Act.put, List.setIfInBounds_toArray, List.set_cons_zero, List.set_cons_succ])
          refine anyU_take hh inv (i := 6) (v := ?_) rfl (by decide) (by kernel_rfl) (by kernel_rfl) (fun _ _ _ h => h) (Or.inl ⟨by rfl, ?_⟩) (by assumption) ?_
          rotate_left 1
          · intro w' hSw
            (try dsimp only at hSw)
            go_simp
            (try with_reducible rfl)
          intro inv
          (try simp only [List.getElem_toArray, List.getElem_cons_succ, List.getElem_cons_zero, Act.put, List.setIfInBounds_toArray, List.set_cons_zero, List.set_cons_succ])
          refine anyU_take hh inv (i := 7) (v := ?_) rfl (by decide) (by kernel_rfl) (by kernel_rfl) (fun _ _ _ h => h) (Or.inl ⟨by rfl, ?_⟩) (by assumption) ?_
          rotate_left 1
          · intro w' hSw
            (try dsimp only at hSw)
            go_simp
            (try with_reducible rfl)
          intro inv
          (try simp only [List.getElem_toArray, List.getElem_cons_succ, List.getElem_cons_zero, Act.put, List.setIfInBounds_toArray, List.set_cons_zero, List.set_cons_succ])
          refine anyU_take hh inv (i := 8) (v := ?_) rfl (by decide) (by kernel_rfl) (by kernel_rfl) (fun _ _ _ h => h) (Or.inl ⟨by rfl, ?_⟩) (by assumption) ?_
          rotate_left 1
          · intro w' hSw
            (try dsimp only at hSw)
            go_simp
            (try with_reducible rfl)
          intro inv
          (try simp only [List.getElem_toArray, List.getElem_cons_succ, List.getElem_cons_zero, Act.put, List.setIfInBounds_toArray, List.set_cons_zero, List.set_cons_succ])
          refine anyU_take hh inv (i := 9) (v := ?_) rfl (by decide) (by kernel_rfl) (by kernel_rfl) (fun _ _ _ h => h) (Or.inl ⟨by rfl, ?_⟩) (by assumption) ?_
          rotate_left 1
          · intro w' hSw
            (try dsimp only at hSw)
            go_simp
            (try with_reducible rfl)
          intro inv
          (try simp only [List.getElem_toArray, List.getElem_cons_succ, List.getElem_cons_zero, Act.put, List.setIfInBounds_toArray, List.set_cons_zero, List.set_cons_succ])
          refine anyU_take hh inv (i := 10) (v := ?_) rfl (by decide) (by kernel_rfl) (by kernel_rfl) (fun _ _ _ h => h) (Or.inl ⟨by rfl, ?_⟩) (by assumption) ?_
          rotate_left 1
          · intro w' hSw
            (try dsimp only at hSw)
            go_simp
            (try with_reducible rfl)
          intro inv
          (try simp only [List.getElem_toArray, List.getElem_cons_succ, List.getElem_cons_zero, Act.put, List.setIfInBounds_toArray, List.set_cons_zero, List.set_cons_succ])
          refine anyU_take hh inv (i := 11) (v := ?_) rfl (by decide) (by kernel_rfl) (by kernel_rfl) (fun _ _ _ h => h) (Or.inl ⟨by rfl, ?_⟩) (by assumption) ?_
          rotate_left 1
          · intro w' hSw
            (try dsimp only at hSw)
            go_simp
            (try with_reducible rfl)
          intro inv
          (try simp only [List.getElem_toArray, List.getElem_cons_succ, List.getElem_cons_zero, Act.put, List.setIfInBounds_toArray, List.set_cons_zero, List.set_cons_succ])
          refine anyU_take hh inv (i := 12) (v := ?_) rfl (by decide) (by kernel_rfl) (by kernel_rfl) (fun _ _ _ h => h) (Or.inl ⟨by rfl, ?_⟩) (by assumption) ?_
          rotate_left 1
          · intro w' hSw
            (try dsimp only at hSw)
            go_simp
            (try with_reducible rfl)
          intro inv
          (try simp only [List.getElem_toArray, List.getElem_cons_succ, List.getElem_cons_zero, Act.put, List.setIfInBounds_toArray, List.set_cons_zero, List.set_cons_succ])
          refine anyU_take hh inv (i := 13) (v := ?_) rfl (by decide) (by kernel_rfl) (by kernel_rfl) (fun _ _ _ h => h) (Or.inl ⟨by rfl, ?_⟩) (by assumption) ?_
          rotate_left 1
          · intro w' hSw
            (try dsimp only at hSw)
            go_simp
            (try with_reducible rfl)
          intro inv
          (try simp only [List.getElem_toArray, List.getElem_cons_succ, List.getElem_cons_zero, Act.put, List.setIfInBounds_toArray, List.set_cons_zero, List.set_cons_succ])
          refine anyU_take hh inv (i := 14) (v := ?_) rfl (by decide) (by kernel_rfl) (by kernel_rfl) (fun _ _ _ h => h) (Or.inl ⟨by rfl, ?_⟩) (by assumption) ?_
          rotate_left 1
          · intro w' hSw
            (try dsimp only at hSw)
            go_simp
            (try with_reducible rfl)
          intro inv
          (try simp only [List.getElem_toArray, List.getElem_cons_succ, List.getElem_cons_zero, Act.put, List.setIfInBounds_toArray, List.set_cons_zero, List.set_cons_succ])
          refine anyU_take hh inv (i := 15) (v := ?_) rfl (by decide) (by kernel_rfl) (by kernel_rfl) (fun _ _ _ h => h) (Or.inl ⟨by rfl, ?_⟩) (by assumption) ?_
          rotate_left 1
          · intro w' hSw
            (try dsimp only at hSw)
            go_simp
            (try with_reducible rfl)
          intro inv
          (try simp only [List.getElem_toArray, List.getElem_cons_succ, List.getElem_cons_zero, Act.put, List.setIfInBounds_toArray, List.set_cons_zero, List.set_cons_succ])
          refine anyU_take hh inv (i := 16) (v := ?_) rfl (by decide) (by kernel_rfl) (by kernel_rfl) (fun _ _ _ h => h) (Or.inl ⟨by rfl, ?_⟩) (by assumption) ?_
          rotate_left 1
          · intro w' hSw
            (try dsimp only at hSw)
            go_simp
            (try with_reducible rfl)
          intro inv
          (try simp only [List.getElem_toArray, List.getElem_cons_succ, List.getElem_cons_zero, Act.put, List.setIfInBounds_toArray, List.set_cons_zero, List.set_cons_succ])
          refine anyU_take hh inv (i := 17) (v := ?_) rfl (by decide) (by kernel_rfl) (by kernel_rfl) (fun _ _ _ h => h) (Or.inl ⟨by rfl, ?_⟩) (by assumption) ?_
          rotate_left 1
          · intro w' hSw
            (try dsimp only at hSw)
            go_simp
            (try with_reducible rfl)
          intro inv
          (try simp only [List.getElem_toArray, List.getElem_cons_succ, List.getElem_cons_zero, Act.put, List.setIfInBounds_toArray, List.set_cons_zero, List.set_cons_succ])
          refine anyU_take hh inv (i := 18) (v := ?_) rfl (by decide) (by kernel_rfl) (by kernel_rfl) (fun _ _ _ h => h) (Or.inl ⟨by rfl, ?_⟩) (by assumption) ?_
          rotate_left 1
          · intro w' hSw
            (try dsimp only at hSw)
            go_simp
            (try with_reducible rfl)
          intro inv
          (try simp only [List.getElem_toArray, List.getElem_cons_succ, List.getElem_cons_zero, Act.put, List.setIfInBounds_toArray, List.set_cons_zero, List.set_cons_succ])
          refine anyU_take hh inv (i := 19) (v := ?_) rfl (by decide) (by kernel_rfl) (by kernel_rfl) (fun _ _ _ h => h) (Or.inl ⟨by rfl, ?_⟩) (by assumption) ?_
          rotate_left 1
          · intro w' hSw
            (try dsimp only at hSw)
            go_simp
            (try with_reducible rfl)
          intro inv
          (try simp only [List.getElem_toArray, List.getElem_cons_succ, List.getElem_cons_zero, Act.put, List.setIfInBounds_toArray, List.set_cons_zero, List.set_cons_succ])
          refine anyU_take hh inv (i := 20) (v := ?_) rfl (by decide) (by kernel_rfl) (by kernel_rfl) (fun _ _ _ h => h) (Or.inl ⟨by rfl, ?_⟩) (by assumption) ?_
          rotate_left 1
          · intro w' hSw
            (try dsimp only at hSw)
            go_simp
            (try with_reducible rfl)
          intro inv
          (try simp only [List.getElem_toArray, List.getElem_cons_succ, List.getElem_cons_zero, Act.put, List.setIfInBounds_toArray, List.set_cons_zero, List.set_cons_succ])
          refine anyU_one inv (i := 21) rfl rfl (by kernel_rfl) (by decide) (fun inv KK hK => ?_)
          go_simp
          refine hK.out _ _ ⟨alloc_cell z1 _, alloc_cell z2 _, alloc_cell z3 _⟩ (fun hHeld => ?_)
          clear hK KK
          (try simp only [List.getElem_toArray, List.getElem_cons_succ, List.getElem_cons_zero, Act.put, List.setIfInBounds_toArray, List.set_cons_zero, List.set_cons_succ])
          refine anyU_one inv (i := 22) rfl rfl (by kernel_rfl) (by decide) (fun inv KK hK => ?_)
          refine wpIn_appS (.tmp 62) (.tmp 70) rfl Tryd.underlying75 infoBack rfl (by decide) rfl (v := .slice pv nb cv) (base := bO) (n := nb) (m := 1) (xs := flat us) (news := [.int .i64 k, .slice pU ws.length cU]) (ownsRow_keep HU2.out (((Below.refl _ _).drew).alloc (Nat.le_refl _) _)) rfl (by exact srcS_top (by first | rfl | (simp; done)) rfl) (way_one _ _ rfl) (by unfold maxLen; omega) (by omega) (by simp; omega) ?_
          intro v' w5 hap
          have hkb : ∀ b, b < wr.heap.size → (∀ g, (Value.slice pv nb cv).ownBlock = some g → g ≠ b) → w5.heap[b]? = wr.heap[b]? := fun b hb hn => (hap.grown.block b (by simp; omega) (fun e => hn b e.symm rfl)).trans (Below.heap_alloc _ _ _ (by simpa using hb))
          have hcB5 : w5.cell? ⟨bO + 1, tw, none⟩ = some (.slice pv nb cv) := (World.cell?_of_block (a := ⟨bO + 1, tw, none⟩) (hkb (bO + 1) hBl (fun g hg => (HNE.out g hg).2.1))).trans hcB
          have hfB5 : w5.frozen? ⟨bO + 1, tw, none⟩ = false := (World.frozen?_of_block (a := ⟨bO + 1, tw, none⟩) (hkb (bO + 1) hBl (fun g hg => (HNE.out g hg).2.1))).trans hfB
          refine hK.out _ _ ⟨(World.cell?_of_block (a := ⟨bD, j * 2, none⟩) (hkb bD (by omega) (fun g hg => (HNE.out g hg).1))).trans g1, (World.cell?_of_block (a := ⟨bD, j * 2 + 1, none⟩) (hkb bD (by omega) (fun g hg => (HNE.out g hg).1))).trans g2, hcB5⟩ (fun hHeld2 => ?_)
          clear hK KK hkb
          obtain ⟨pv', cv', rfl⟩ := owns_form hap.own
          have HAP := Lib.hid hap
          clear hap
          (try simp only [List.getElem_toArray, List.getElem_cons_succ, List.getElem_cons_zero, Act.put, List.setIfInBounds_toArray, List.set_cons_zero, List.set_cons_succ])
          refine anyU_take hh inv (i := 23) (v := ?_) rfl (by decide) (by kernel_rfl) (by kernel_rfl) (fun _ _ _ h => h) (Or.inl ⟨by rfl, ?_⟩) (by assumption) ?_
          rotate_left 1
          · intro w' hSw
            (try dsimp only at hSw)
            go_simp
            (try with_reducible rfl)
          intro inv
          (try simp only [List.getElem_toArray, List.getElem_cons_succ, List.getElem_cons_zero, Act.put, List.setIfInBounds_toArray, List.set_cons_zero, List.set_cons_succ])
          refine ⟨by kernel_rfl, ?_⟩
          gi_wp2
          have HBJ := Lib.hid ((Below.refl wr.heap.size wr).drew)
          have hpb := (HLMJ.out.keep HBJ.out).pushBack (x := k) (o := .cells #[.int .i64 k, .slice pU ws.length cU] 77) (w' := w5) (v' := .slice pv' (nb + 1) cv') (u := .slice pU ws.length cU) (ws := ws) (us := us) htw hu1 (fun i hi => ⟨(HU3.out i hi).1, (HU3.out i hi).2.1.keep HBJ.out, (HU3.out i hi).2.2⟩) ((HG3.out.low (by omega)).keep HBJ.out) HUT.out (by rw [HPV.out, hnb]; exact HAP.out)
          obtain ⟨tg', hlm', hst'⟩ := hpb
          have HLM' := Lib.hid hlm'
          have HST' := Lib.hid hst'
          clear hlm' hst'
          go_wp2_with fail
          go_roundw
          case rel =>
            refine ⟨j + 1, tg', by go_num, by omega, ⟨⟨rhoj, updF BVj tw (.slice pv' (nb + 1) cv'), RVj, ?_⟩, ?_⟩, fun g h1 h2 => ?_, ?_⟩
            · rw [HPS.out, pushW_upd]
              exact HLM'.out
            · exact (HLOWJ.out.trans (HBJ.out.mono (by omega))).trans ((HST'.out.kw.below (n := bO) (by simp; omega) (fun b hb => .inl hb)).mono (Nat.le_refl _))
            · rw [HST'.out.tag g (by simp; omega)]
              exact HTJ.out g h1 h2
            · exact (HKW.out.trans (Kw.all HBJ.out)).trans (HST'.out.kw.mono fun g hg _ => .inr (HTJ.out g hg.1 hg.2))
          case measure => simp [intOf]; omega
        · have hjz : ¬ (j : Int) < ((waysD F k).length : Int) := by omega
          rw [List.take_of_length_le (by omega), ← bbAll_succ] at hlmj
          have HLJ := Lib.hid hlmj
          have hlw : Below w.heap.size w wr := HB0.out.trans (hlowj.mono (by omega))
          obtain ⟨x0, x1, x2, x3, x4, x5, x6, x7, x8, x9⟩ := (HX.out.keep hlowj hbw).all
          obtain ⟨b, off, rfl, hcell⟩ := HPI.out (by omega)
          obtain ⟨lv, hat⟩ := hcell k hlt
          obtain ⟨e0, e1, e2, e3, e4, e5, e6, e7, hll⟩ := hat.keep hlw
          have hre : readsD (F.ins.getD k insZ) = ints (readsN F k) := HSF.out.reads_ints hlt
          have hrl := HLL.out k hlt
          generalize F.ins.getD k insZ = i at e0 e1 e2 e3 e4 e5 e6 e7 hll hre
          obtain ⟨p7, c7, rfl, _, _, _⟩ := ri_form e7
          have HRD := rreads_any i (.slice p7 i.l.length c7) wr e7 hll
          unfold insV at HRD
          rw [hre] at HRD
          replace HRD := Lib.hid HRD
          clear hcell hat hre e7 hlmj hlowj htj hkw
          go_wp2_with (first
            | (go_at_call 26; (with_reducible refine HRD.out.mono ?_); rintro e wE ⟨uE, rfl, hu, hb⟩; obtain ⟨pE, cE, rfl⟩ := own_form hu; rw [ints_len]; have HUE := Lib.hid hu; have HE := Lib.hid hb; clear hu hb x0 x1 x2 x3 x4 x5 x6 x7 x8 x9 e0 e1 e2 e3 e4 e5 e6)
            | fail)
          obtain ⟨wB, rfl⟩ : ∃ wB : World, wB = wr := ⟨_, rfl⟩
          have hsE := HE.out.size
          go_loopw [11] (fun s11 wx => ∃ (j2 : Nat) (tg : Nat → Nat), s11 = .int .i64 j2 ∧ j2 ≤ (readsN F k).length ∧ LvG F s bO bO w1 (k + 1) (bbAll F (k + 1)) (((readsN F k).take j2).foldl (pushR k) (rrAll F k)) tg wx ∧ (∀ g, wB.heap.size ≤ g → g < wE.heap.size → tg g = 0) ∧ Kw (fun g => wB.heap.size ≤ g ∧ g < wE.heap.size) wE wx) (fun s11 _ => (readsN F k).length - (intOf s11).toNat)
          case atStart => exact ⟨0, tgj, rfl, Nat.zero_le _, ⟨⟨rhoj, BVj, RVj, HLJ.out.keep HE.out⟩, HLOWJ.out.trans (HE.out.mono (by omega))⟩, fun g h1 _ => HLJ.out.fresh g h1, Kw.refl _ _⟩
          case round =>
            obtain ⟨j2, tg2, rfl, hj2, ⟨⟨rho2, BV2, RV2, hlm2⟩, hlow2⟩, ht2, hkw2⟩ := hrel
            have hsz2 := hkw2.size
            have HLM2 := Lib.hid hlm2
            have HLOW2 := Lib.hid hlow2
            have HT2 := Lib.hid ht2
            have HKW2 := Lib.hid hkw2
            by_cases hj2l : j2 < (readsN F k).length
            · obtain ⟨bE, oE, rfl, q1⟩ := oi_cell HUE.out (by rw [ints_len]; omega) (k := j2) (by rw [ints_len]; exact hj2l)
              obtain ⟨q, hq⟩ : ∃ q, (readsN F k).getD j2 0 = q := ⟨_, rfl⟩
              rw [ints_getD, hq] at q1
              have hbE : wB.heap.size ≤ bE ∧ bE < wE.heap.size := OW.lt HUE.out rfl
              have g1 := (World.cell?_of_block (a := ⟨bE, oE + j2, none⟩) (hkw2.block bE hbE hbE.2)).trans q1
              have hqm : q ∈ readsN F k := by rw [← hq, List.getD_eq_getElem?_getD, List.getElem?_eq_getElem hj2l]; simp
              have hqr : q < F.regs.toNat := HSF.out.gr.reads_lt k hlt q hqm
              have hqR : q < R := by have := HRE.out; omega
              have hown := hlm2.rrow q hqr
              have htr := hlm2.tred q hqr
              have hcR : wr.cell? ⟨bO + 1 + 1, q, none⟩ = some (RV2 q) := hlm2.red.cell (i := q) (v := RV2 q) (by rw [List.getElem?_map, List.getElem?_range hqr]; rfl)
              have hfR : wr.frozen? ⟨bO + 1 + 1, q, none⟩ = false := hlm2.red.frozen q
              have hBl2 : bO + 1 + 1 < wr.heap.size := hlm2.red.lt
              have htR : tg2 (bO + 1 + 1) = 2 := hlm2.tR
              have HPR := Lib.hid (take_fold hj2l hq (pushR k) (rrAll F k))
              have hl1 := pushR_len k q ((readsN F k).take j2) (rrAll F k)
              have hl2 := rrAll_len (F := F) (M := 2097152) (q := q) k (fun x hx => HLL.out x (by omega))
              rw [List.length_take] at hl1
              obtain ⟨RRj, hRR⟩ : ∃ RRj, ((readsN F k).take j2).foldl (pushR k) (rrAll F k) = RRj := ⟨_, rfl⟩
              rw [hRR] at HLM2 HPR hown hl1
              obtain ⟨nb, hnb⟩ : ∃ nb, (ints (RRj q)).length = nb := ⟨_, rfl⟩
              have hnbl : nb ≤ 4398046511104 := by
                rw [← hnb, ints_len]
                have : 2097152 * k ≤ 2097152 * 1048576 := Nat.mul_le_mul_left _ (by omega)
                omega
              obtain ⟨pv, cv, hpv⟩ := own_form hown
              rw [hnb] at hpv
              have HPV := Lib.hid hpv
              rw [hpv] at hown hcR htr
              have hne : ∀ g, (Value.slice pv nb cv).ownBlock = some g → g ≠ bE ∧ g ≠ bO + 1 + 1 ∧ bO ≤ g := fun g hg => by
                have h1 := htr g hg
                refine ⟨fun e => ?_, fun e => ?_, (OW.lt hown hg).1⟩
                · rw [e, ht2 bE hbE.1 hbE.2] at h1; omega
                · rw [e, htR] at h1; omega
              have HNE := Lib.hid hne
              have HOW := Lib.hid hown
              have HNB := Lib.hid hnb
              have hj2z : (j2 : Int) < ((readsN F k).length : Int) := by omega
              have hqz : (q : Int) < (R : Int) := by omega
              have hbOr : bO ≤ wr.heap.size := by omega
              have z1 : wr.drew.cell? ⟨bE, oE + j2, none⟩ = some (.int .i64 q) := g1
              have z2 : wr.drew.cell? ⟨bO + 1 + 1, q, none⟩ = some (.slice pv nb cv) := hcR
              clear hlm2 hlow2 ht2 hkw2 hown htr htR hl1 hl2 hRR hpv hne hqm hnb q1 hq
              go_wp2_with fail
              refine wp_region_anyU (S := fun w' => w'.cell? ⟨bE, oE + j2, none⟩ = some (.int .i64 q) ∧ w'.cell? ⟨bO + 1 + 1, q, none⟩ = some (.slice pv nb cv)) 16 (by kernel_rfl) ⟨by kernel_rfl, by kernel_rfl, by kernel_rfl, by kernel_rfl, by decide⟩ ⟨z1, z2⟩ ?_
              simp only [List.drop_succ_cons, List.drop_zero]
              intro hh inv hS0
              refine anyU_take hh inv (i := 0) (v := ?_) rfl (by decide) (by kernel_rfl) (by kernel_rfl) (fun _ _ _ h => h) (Or.inl ⟨by rfl, ?_⟩) (by assumption) ?_
              rotate_left 1
              · intro w' hSw
                (try dsimp only at hSw)
                go_simp
                (try with_reducible rfl)
              intro inv
              (try simp only [List.getElem_toArray, List.getElem_cons_succ, List.getElem_cons_zero, Act.put, List.setIfInBounds_toArray, List.set_cons_zero, List.set_cons_succ])
              refine anyU_take hh inv (i := 1) (v := ?_) rfl (by decide) (by kernel_rfl) (by kernel_rfl) (fun _ _ _ h => h) (Or.inl ⟨by rfl, ?_⟩) (by assumption) ?_
              rotate_left 1
              · intro w' hSw
                (try dsimp only at hSw)
                go_simp
                (try with_reducible rfl)
              intro inv
              (try simp only [List.getElem_toArray, List.getElem_cons_succ, List.getElem_cons_zero, Act.put, List.setIfInBounds_toArray, List.set_cons_zero, List.set_cons_succ])
              refine anyU_take hh inv (i := 2) (v := ?_) rfl (by decide) (by kernel_rfl) (by kernel_rfl) (fun _ _ _ h => h) (Or.inl ⟨by rfl, ?_⟩) (by assumption) ?_
              rotate_left 1
              · intro w' hSw
                (try dsimp only at hSw)
                go_simp
                (try with_reducible rfl)
              intro inv
              (try simp only [List.getElem_toArray, List.getElem_cons_succ, List.getElem_cons_zero, Act.put, List.setIfInBounds_toArray, List.set_cons_zero, List.set_cons_succ])
              refine anyU_take hh inv (i := 3) (v := ?_) rfl (by decide) (by kernel_rfl) (by kernel_rfl) (fun _ _ _ h => h) (Or.inl ⟨by rfl, ?_⟩) (by assumption) ?_
              rotate_left 1
              · intro w' hSw
                (try dsimp only at hSw)
                go_simp
                (try with_reducible rfl)
              intro inv
              (try simp only [List.getElem_toArray, List.getElem_cons_succ, List.getElem_cons_zero, Act.put, List.setIfInBounds_toArray, List.set_cons_zero, List.set_cons_succ])
              refine anyU_take hh inv (i := 4) (v := ?_) rfl (by decide) (by kernel_rfl) (by kernel_rfl) (fun _ _ _ h => h) (Or.inl ⟨by rfl, ?_⟩) (by assumption) ?_
              rotate_left 1
              · intro w' hSw
                (try dsimp only at hSw)
                go_simp
                (try with_reducible rfl)
              intro inv
              (try simp only [List.getElem_toArray, List.getElem_cons_succ, List.getElem_cons_zero, Act.put, List.setIfInBounds_toArray, List.set_cons_zero, List.set_cons_succ])
              refine anyU_take hh inv (i := 5) (v := ?_) rfl (by decide) (by kernel_rfl) (by kernel_rfl) (fun _ _ _ h => h) (Or.inl ⟨by rfl, ?_⟩) (by assumption) ?_
              rotate_left 1
              · intro w' hSw
                (try dsimp only at hSw)
                go_simp
                (try with_reducible rfl)
              intro inv
              (try simp only [List.getElem_toArray, List.getElem_cons_succ, List.getElem_cons_zero, Act.put, List.setIfInBounds_toArray, List.set_cons_zero, List.set_cons_succ])
              refine anyU_take hh inv (i := 6) (v := ?_) rfl (by decide) (by kernel_rfl) (by kernel_rfl) (fun _ _ _ h => h) (Or.inl ⟨by rfl, ?_⟩) (by assumption) ?_
              rotate_left 1
              · intro w' hSw
                (try dsimp only at hSw)
                go_simp
                (try with_reducible rfl)
              intro inv
              (try simp only [List.getElem_toArray, List.getElem_cons_succ, List.getElem_cons_zero, Act.put, List.setIfInBounds_toArray, List.set_cons_zero, List.set_cons_succ])
              refine anyU_take hh inv (i := 7) (v := ?_) rfl (by decide) (by kernel_rfl) (by kernel_rfl) (fun _ _ _ h => h) (Or.inl ⟨by rfl, ?_⟩) (by assumption) ?_
              rotate_left 1
              · intro w' hSw
                (try dsimp only at hSw)
                go_simp
                (try with_reducible rfl)
              intro inv
              (try simp only [List.getElem_toArray, List.getElem_cons_succ, List.getElem_cons_zero, Act.put, List.setIfInBounds_toArray, List.set_cons_zero, List.set_cons_succ])
              refine anyU_take hh inv (i := 8) (v := ?_) rfl (by decide) (by kernel_rfl) (by kernel_rfl) (fun _ _ _ h => h) (Or.inl ⟨by rfl, ?_⟩) (by assumption) ?_
              rotate_left 1
              · intro w' hSw
                (try dsimp only at hSw)
                go_simp
                (try with_reducible rfl)
              intro inv
              (try simp only [List.getElem_toArray, List.getElem_cons_succ, List.getElem_cons_zero, Act.put, List.setIfInBounds_toArray, List.set_cons_zero, List.set_cons_succ])
              refine anyU_take hh inv (i := 9) (v := ?_) rfl (by decide) (by kernel_rfl) (by kernel_rfl) (fun _ _ _ h => h) (Or.inl ⟨by rfl, ?_⟩) (by assumption) ?_
              rotate_left 1
              · intro w' hSw
                (try dsimp only at hSw)
                go_simp
                (try with_reducible rfl)
              intro inv
              (try simp only [List.getElem_toArray, List.getElem_cons_succ, List.getElem_cons_zero, Act.put, List.setIfInBounds_toArray, List.set_cons_zero, List.set_cons_succ])
              refine anyU_take hh inv (i := 10) (v := ?_) rfl (by decide) (by kernel_rfl) (by kernel_rfl) (fun _ _ _ h => h) (Or.inl ⟨by rfl, ?_⟩) (by assumption) ?_
              rotate_left 1
              · intro w' hSw
                (try dsimp only at hSw)
                go_simp
                (try with_reducible rfl)
              intro inv
              (try simp only [List.getElem_toArray, List.getElem_cons_succ, List.getElem_cons_zero, Act.put, List.setIfInBounds_toArray, List.set_cons_zero, List.set_cons_succ])
              refine anyU_take hh inv (i := 11) (v := ?_) rfl (by decide) (by kernel_rfl) (by kernel_rfl) (fun _ _ _ h => h) (Or.inl ⟨by rfl, ?_⟩) (by assumption) ?_
              rotate_left 1
              · intro w' hSw
                (try dsimp only at hSw)
                go_simp
                (try with_reducible rfl)
              intro inv
              (try simp only [List.getElem_toArray, List.getElem_cons_succ, List.getElem_cons_zero, Act.put, List.setIfInBounds_toArray, List.set_cons_zero, List.set_cons_succ])
              refine anyU_take hh inv (i := 12) (v := ?_) rfl (by decide) (by kernel_rfl) (by kernel_rfl) (fun _ _ _ h => h) (Or.inl ⟨by rfl, ?_⟩) (by assumption) ?_
              rotate_left 1
              · intro w' hSw
                (try dsimp only at hSw)
                go_simp
                (try with_reducible rfl)
              intro inv
              (try simp only [List.getElem_toArray, List.getElem_cons_succ, List.getElem_cons_zero, Act.put, List.setIfInBounds_toArray, List.set_cons_zero, List.set_cons_succ])
              refine anyU_one inv (i := 13) rfl rfl (by kernel_rfl) (by decide) (fun inv KK hK => ?_)
              go_simp
              refine hK.out _ _ ⟨alloc_cell z1 _, alloc_cell z2 _⟩ (fun hHeld => ?_)
              clear hK KK
              (try simp only [List.getElem_toArray, List.getElem_cons_succ, List.getElem_cons_zero, Act.put, List.setIfInBounds_toArray, List.set_cons_zero, List.set_cons_succ])
              refine anyU_one inv (i := 14) rfl rfl (by kernel_rfl) (by decide) (fun inv KK hK => ?_)
              refine wpIn_appI (.tmp 96) (.tmp 98) rfl Tryd.underlying31 infoInt rfl rfl (v := .slice pv nb cv) (base := bO) (n := nb) (m := 1) (xs := (ints (RRj q)).map (Value.int .i64)) (news := [.int .i64 k]) (by have h := OW.keep HOW.out (((Below.refl _ _).drew).alloc (Nat.le_refl _) (.cells #[.int .i64 k] 3)); unfold OW at h; rw [HNB.out] at h; exact h) rfl (by exact src_one (w := wr.drew) (by simp)) (by simp [Value.oneCell']) (by unfold maxLen; omega) (by omega) (by simp; omega) ?_
              intro v' w5 hap
              have hkb : ∀ b, b < wr.heap.size → (∀ g, (Value.slice pv nb cv).ownBlock = some g → g ≠ b) → w5.heap[b]? = wr.heap[b]? := fun b hb hn => (hap.grown.block b (by simp; omega) (fun e => hn b e.symm rfl)).trans (Below.heap_alloc _ _ _ (by simpa using hb))
              have hcR5 : w5.cell? ⟨bO + 1 + 1, q, none⟩ = some (.slice pv nb cv) := (World.cell?_of_block (a := ⟨bO + 1 + 1, q, none⟩) (hkb (bO + 1 + 1) hBl2 (fun g hg => (HNE.out g hg).2.1))).trans hcR
              have hfR5 : w5.frozen? ⟨bO + 1 + 1, q, none⟩ = false := (World.frozen?_of_block (a := ⟨bO + 1 + 1, q, none⟩) (hkb (bO + 1 + 1) hBl2 (fun g hg => (HNE.out g hg).2.1))).trans hfR
              refine hK.out _ _ ⟨(World.cell?_of_block (a := ⟨bE, oE + j2, none⟩) (hkb bE (by omega) (fun g hg => (HNE.out g hg).1))).trans g1, hcR5⟩ (fun hHeld2 => ?_)
              clear hK KK hkb
              obtain ⟨pv', cv', rfl⟩ := owns_form hap.own
              have HAP := Lib.hid hap
              clear hap
              (try simp only [List.getElem_toArray, List.getElem_cons_succ, List.getElem_cons_zero, Act.put, List.setIfInBounds_toArray, List.set_cons_zero, List.set_cons_succ])
              refine anyU_take hh inv (i := 15) (v := ?_) rfl (by decide) (by kernel_rfl) (by kernel_rfl) (fun _ _ _ h => h) (Or.inl ⟨by rfl, ?_⟩) (by assumption) ?_
              rotate_left 1
              · intro w' hSw
                (try dsimp only at hSw)
                go_simp
                (try with_reducible rfl)
              intro inv
              (try simp only [List.getElem_toArray, List.getElem_cons_succ, List.getElem_cons_zero, Act.put, List.setIfInBounds_toArray, List.set_cons_zero, List.set_cons_succ])
              refine ⟨by kernel_rfl, ?_⟩
              gi_wp2
              have HBJ2 := Lib.hid ((Below.refl wr.heap.size wr).drew)
              have hpb := (HLM2.out.keep HBJ2.out).pushRead (x := k) (o := .cells #[.int .i64 k] 3) (w' := w5) (v' := .slice pv' (nb + 1) cv') hqr (by rw [HPV.out, HNB.out]; exact HAP.out)
              obtain ⟨tg', hlm', hst'⟩ := hpb
              have HLM' := Lib.hid hlm'
              have HST' := Lib.hid hst'
              clear hlm' hst'
              go_wp2_with fail
              go_roundw
              case rel =>
                refine ⟨j2 + 1, tg', by go_num, by omega, ⟨⟨rho2, BV2, updF RV2 q (.slice pv' (nb + 1) cv'), ?_⟩, ?_⟩, fun g h1 h2 => ?_, ?_⟩
                · rw [HPR.out, pushR_upd]
                  exact HLM'.out
                · exact (HLOW2.out.trans (HBJ2.out.mono (by omega))).trans ((HST'.out.kw.below (n := bO) (by simp; omega) (fun b hb => .inl hb)).mono (Nat.le_refl _))
                · rw [HST'.out.tag g (by simp; omega)]
                  exact HT2.out g h1 h2
                · exact (HKW2.out.trans (Kw.all HBJ2.out)).trans (HST'.out.kw.mono fun g hg _ => .inr (HT2.out g hg.1 hg.2))
              case measure => simp [intOf]; omega
            · have hj2z : ¬ (j2 : Int) < ((readsN F k).length : Int) := by omega
              rw [List.take_of_length_le (by omega), ← rrAll_succ] at hlm2
              have HLM3 := Lib.hid hlm2
              clear hlm2 hlow2 ht2 hkw2
              go_wp2_with fail
              go_roundw
              case rel => exact ⟨k + 1, tg2, by go_num, by omega, ⟨⟨rho2, BV2, RV2, HLM3.out⟩, HLOW2.out⟩⟩
              case measure => simp [intOf]; omega
    · obtain rfl : k = F.ins.length := by omega
      have hkz : ¬ ((F.ins.length : Nat) : Int) < (F.ins.length : Int) := by omega
      have hSP0 : SpG F s bO rho wr 0 (List.replicate F.ins.length (List.replicate s 0)) wr := by
        have hgd : ∀ y, y < F.ins.length → (List.replicate F.ins.length (List.replicate s 0)).getD y [] = List.replicate s 0 := fun y hy => by
          rw [List.getD_eq_getElem?_getD, List.getElem?_replicate, if_pos hy]; rfl
        refine ⟨⟨by rw [← outL_all]; exact hlm.out, fun x hx => by rw [hgd x hx]; exact hlm.row x hx⟩, Kw.refl _ _, ⟨by rw [List.length_replicate]; rfl, fun x hx => by rw [hgd x hx, HSE.out]; exact OkW.zero s⟩, fun y hy z hz => (by omega), fun y hy z _ => by rw [hgd y hy]; exact has_zero s z⟩
      have HSP0 := Lib.hid hSP0
      clear hSP0 hlm hlow
      go_wp2_with fail
      obtain ⟨wP, rfl⟩ : ∃ wP : World, wP = wr := ⟨_, rfl⟩
      go_loopw [12] (fun s12 wx => ∃ (q : Nat) (L : List (List Nat)), s12 = .int .i64 q ∧ q ≤ R ∧ SpG F s bO rho wP q L wx) (fun s12 _ => R - (intOf s12).toNat)
      case atStart => exact ⟨0, _, rfl, Nat.zero_le _, HSP0.out⟩
      case round =>
        obtain ⟨q, L, rfl, hq, hsg⟩ := hrel
        have HSG := Lib.hid hsg
        have hlowP : Below bO w1 wr := HLOW.out.trans ((hsg.kw.below (n := bO) (by omega) (fun b hb x hx e => by have := HLM.out.lrow x hx; omega)).mono (by omega))
        have hlwP : Below w.heap.size w wr := HB0.out.trans (hlowP.mono (by omega))
        obtain ⟨x0, x1, x2, x3, x4, x5, x6, x7, x8, x9⟩ := (HX.out.keep hlowP hbw).all
        have HLWP := Lib.hid hlwP
        by_cases hqR : q < R
        · have hqr : q < F.regs.toNat := by have := HRE.out; omega
          have hkt : ∀ g, g < wP.heap.size → tg g ≠ 0 → wr.heap[g]? = wP.heap[g]? := fun g hg ht => hsg.kw.block g (fun x hx e => ht (by rw [e]; exact HLM.out.trow x hx)) hg
          have hcR : wr.cell? ⟨bO + 1 + 1, q, none⟩ = some (RV q) := (World.cell?_of_block (a := ⟨bO + 1 + 1, q, none⟩) (hkt (bO + 2) HLM.out.red.lt (by rw [HLM.out.tR]; omega))).trans (HLM.out.red.cell (i := q) (v := RV q) (by rw [List.getElem?_map, List.getElem?_range hqr]; rfl))
          have hrl := rrAll_len (F := F) (M := 2097152) (q := q) F.ins.length (fun x hx => HLL.out x hx)
          have hrl2 : (rrAll F F.ins.length q).length ≤ 2199023255552 := by
            have : 2097152 * F.ins.length ≤ 2097152 * 1048576 := Nat.mul_le_mul_left _ (by omega)
            omega
          have hri : Ri wr (RV q) (ints (rrAll F F.ins.length q)) := by
            have h1 := HLM.out.rrow q hqr
            have h2 : OI wr bO (RV q) (ints (rrAll F F.ins.length q)) := OW.block h1 fun g hg => hkt g (OW.lt h1 hg).2 (by rw [HLM.out.tred q hqr g hg]; omega)
            exact h2.mine.ri (by rw [ints_len]; omega)
          have hbl3 := blens_all F F.ins.length F.ins.length
          have hS63 := HS63.out
          have hse := HSE.out
          have hSP := spread_any (grOf F) HSF.out.gr (bbAll F F.ins.length) (back_ok F) bO (bO + 1) rho wr L (rrAll F F.ins.length q) (RV q) q 4398046511104 (by rw [hse]; exact hsg.wl) HLM.out.inj
            (fun W hk => HLM.out.sb (hsg.kw.trans hk) (fun y hy p hp => ways_wl (v := (y, p.2)) HSF.out HI.out (((bbAll_mem _).1 hp).1) (((bbAll_mem _).1 hp).2))) hri
            (SInv.start hsg.ok (fun y hy => hsg.hi y hy q (Nat.le_refl _)) (fun y hy => (rrAll_mem _).1 hy) (fun y hy hr => (rrAll_mem _).2 ⟨hy, hr⟩) (by show _ + (blens _ F.ins.length + F.ins.length) ≤ _; omega))
            hqr (show F.regs.toNat ≤ 65536 by omega) (by rw [hse]; show 64 * s < F.regs.toNat + 64 ∧ F.regs.toNat ≤ 64 * s; have := HRE.out; omega) hnn (by omega) (fun y hy => by have := blens_at (BB := bbAll F F.ins.length) F.ins.length hy; omega)
          rw [hse] at hSP
          change Calls _ _ #[.slice (some ⟨bO, 0, none⟩) F.ins.length F.ins.length, .slice (some ⟨bO + 1, 0, none⟩) F.ins.length F.ins.length, RV q, .int .i64 (q : Int)] _ _ at hSP
          obtain ⟨pr, cr, hpr, _, _, _⟩ := ri_form hri
          rw [ints_len] at hpr
          rw [hpr] at hcR hSP
          have HSP := Lib.hid hSP
          have hqz : (q : Int) < F.regs := by have := HRZ.out; omega
          clear hSP hri hsg hlowP hlwP hS63 hse
          go_wp2_with (first
            | (go_at_call 52; (with_reducible refine HSP.out.mono ?_); rintro e wG ⟨⟨vG, rfl⟩, CG, LG, hi9, hw9, hk9⟩; have HI9 := Lib.hid hi9; have HW9 := Lib.hid hw9; have HK9 := Lib.hid hk9; clear hi9 hw9 hk9 x0 x1 x2 x3 x4 x5 x6 x7 x8 x9)
            | fail)
          go_roundw
          case rel =>
            refine ⟨q + 1, LG, by go_num, by omega, HW9.out, HSG.out.kw.trans HK9.out, HI9.out.ok, fun y hy z hz => ?_, fun y hy z hz => ?_⟩
            · by_cases e : z = q
              · subst e
                exact HI9.out.done HSF.out.gr (back_ok F) y hy
              · rw [HI9.out.other y hy z e]
                exact HSG.out.lo y hy z (by omega)
            · rw [HI9.out.other y hy z (by omega)]
              exact HSG.out.hi y hy z (by omega)
          case measure => simp [intOf]; omega
        · have hqz : ¬ (q : Int) < F.regs := by have := HRZ.out; omega
          clear hsg hlowP hlwP
          go_wp2_with fail
          go_ret
          have hll := HSG.out.ok.len
          have hL : L.length = F.ins.length := hll
          refine ⟨_, rfl, L, ?_, HSG.out.ok, fun y hy z => ?_, HLWP.out⟩
          · refine ⟨some ⟨bO, 0, none⟩, F.ins.length, by rw [hL]; rfl, by omega, fun i hi => ⟨bO, 0, .slice (some ⟨rho i, 0, none⟩) s s, rfl, ?_, ?_⟩⟩
            · rw [Nat.zero_add]
              exact HSG.out.wl.out.cell (rowC_at rho (by omega))
            · have hr := HSG.out.wl.row i (by omega)
              have hok := HSG.out.ok.row i (by rw [← hll]; exact hi)
              have hrl : (L.getD i []).length = s := by rw [hok.len]; exact HSE.out
              refine ⟨.inr ⟨rho i, 0, s, by rw [ints_len, hrl], by rw [ints_len, hrl]; exact Nat.le_refl _, by rw [ints_len, hrl]; omega, fun j hj => ?_⟩, hok.lt⟩
              rw [Nat.zero_add, ints_getD]
              exact hr.word (by rw [ints_len] at hj; exact hj)
          · by_cases hz : z < q
            · exact HSG.out.lo y hy z hz
            · rw [← List.getD_eq_getElem?_getD, HSG.out.hi y hy z (by omega)]
              refine ⟨fun h => (by cases h), fun h => ?_⟩
              have h2 := h.lt HSF.out.gr hy
              have : (grOf F).regs = R := HRE.out
              omega
end
section
open Go Go.ChangeShapes Go.WideShapes Go.RowKit
set_option linter.unusedVariables false
set_option linter.unusedSimpArgs false
set_option maxRecDepth 100000 in
set_option maxHeartbeats 8000000 in
theorem same_maps (a b : Value) (L : List (List Nat)) (w : World) (ha : Rr w a L) (hb : Rr w b L) :
    Calls Tryd.prog 24 #[a, b] w fun e w' => e = .returned (.bool true) ∧ Below w.heap.size w w' := by
  have HA := Lib.hid ha
  have HB := Lib.hid hb
  obtain ⟨pa, ca, rfl, hl, _⟩ := ha
  obtain ⟨pb, cb, rfl, _, _⟩ := hb
  go_enter Tryd.func24, Tryd.ntmps24
  go_wp2_with fail
  go_loopw [5] (fun s5 wx => ∃ k : Nat, s5 = .int .i64 k ∧ k ≤ L.length ∧ Below w.heap.size w wx) (fun s5 _ => L.length - (intOf s5).toNat)
  case atStart => exact ⟨0, rfl, Nat.zero_le _, Below.refl _ _⟩
  case round =>
    obtain ⟨k, rfl, hk, hb⟩ := hrel
    have HBW := Lib.hid hb
    by_cases hlt : k < L.length
    · obtain ⟨pa', ca', hea, _, hA⟩ := HA.out.keep hb
      obtain ⟨pb', cb', heb, _, hB⟩ := HB.out.keep hb
      simp only [Value.slice.injEq] at hea heb
      obtain ⟨rfl, _, rfl⟩ := hea
      obtain ⟨rfl, _, rfl⟩ := heb
      obtain ⟨bA, oA, uA, rfl, cA, rA⟩ := hA k hlt
      obtain ⟨bB, oB, uB, rfl, cB, rB⟩ := hB k hlt
      obtain ⟨row, hrow⟩ : ∃ row, L.getD k [] = row := ⟨_, rfl⟩
      rw [hrow] at rA rB
      obtain ⟨pA, eA, rfl, _, hrl, _⟩ := rw_form rA
      obtain ⟨pB, eB, rfl, _, _, _⟩ := rw_form rB
      have HRA := Lib.hid rA
      have HRB := Lib.hid rB
      have HCA := Lib.hid cA
      have HCB := Lib.hid cB
      have ne1 : ((row.length : Int) != (row.length : Int)) = false := by simp
      have hkz : (k : Int) < (L.length : Int) := by omega
      clear hA hB hb rA rB hrow
      go_wp2_with fail
      go_quiet (fail)
      go_wp2_with fail
      obtain ⟨wA, rfl⟩ : ∃ wA : World, wA = wr := ⟨_, rfl⟩
      clear cA cB
      go_loopw [6] (fun s6 wx => ∃ j : Nat, s6 = .int .i64 j ∧ j ≤ row.length ∧ Below wA.heap.size wA wx) (fun s6 _ => row.length - (intOf s6).toNat)
      case atStart => exact ⟨0, rfl, Nat.zero_le _, by exact below_drewN (Below.refl _ _) _⟩
      case round =>
        obtain ⟨j, rfl, hj, hb2⟩ := hrel
        have HB2 := Lib.hid hb2
        have cA := below_cell hb2 HCA.out
        have cB := below_cell hb2 HCB.out
        by_cases hjl : j < row.length
        · obtain ⟨_, _, h1, _, _, h2⟩ := rw_form (HRA.out.keep hb2)
          simp only [Value.slice.injEq] at h1
          obtain ⟨rfl, _, rfl⟩ := h1
          obtain ⟨_, _, h1, _, _, h3⟩ := rw_form (HRB.out.keep hb2)
          simp only [Value.slice.injEq] at h1
          obtain ⟨rfl, _, rfl⟩ := h1
          obtain ⟨xA, yA, rfl, dA⟩ := h2 j hjl
          obtain ⟨xB, yB, rfl, dB⟩ := h3 j hjl
          obtain ⟨q, hq⟩ : ∃ q, row.getD j 0 = q := ⟨_, rfl⟩
          rw [hq] at dA dB
          have ne2 : ((q : Int) != (q : Int)) = false := by simp
          have hjz : (j : Int) < (row.length : Int) := by omega
          clear h2 h3 hb2 hq
          go_wp2_with fail
          go_quiet (fail)
          go_wp2_with fail
          go_roundw
          case rel => exact ⟨j + 1, by go_num, by omega, by exact below_drewN HB2.out _⟩
          case measure => simp [intOf]; omega
        · have hjz : ¬ (j : Int) < (row.length : Int) := by omega
          clear hb2
          go_wp2_with fail
          go_roundw
          case rel => exact ⟨k + 1, by go_num, by omega, HBW.out.trans (HB2.out.mono HBW.out.size)⟩
          case measure => simp [intOf]; omega
    · have hkz : ¬ (k : Int) < (L.length : Int) := by omega
      clear hb
      go_wp2_with fail
      go_ret
      exact ⟨rfl, HBW.out⟩
set_option maxRecDepth 100000 in
set_option maxHeartbeats 8000000 in
theorem law_live (r : RestV) (F : FuncD) (iv rv : Value) (w : World) (hU : Us w) (hI : Ii w iv F.ins) (hR : Rg w rv F.regions) (hnn : F.ins.length ≤ 1048576) (hnr : F.regions.length ≤ 1048576) (hll : ∀ i, i < F.ins.length → (F.ins.getD i insZ).l.length ≤ 1048576) :
    Calls Tryd.prog 5 #[funcV r F iv rv] w fun e w' => e = .returned (.bool true) ∧ Below w.heap.size w w' := by
  have HSR := rsound_any r F iv rv
  have HLY := fun hs => live_yes r F iv rv hs hnn
  have HLN := fun hs => live_no r F iv rv hs hnn
  have HRY := fun hs => rlive_any r F iv rv hs hnn (fun x hx => by
    have h1 := congrArg List.length ((soundF hs).reads_ints hx)
    rw [ints_len] at h1
    have h2 := readsD_len (F.ins.getD x insZ)
    have h3 := hll x hx
    omega)
  obtain ⟨p, c, rfl, _, _, _⟩ := ii_form hI
  obtain ⟨p2, c2, rfl, _, _, _⟩ := rg_form hR
  unfold funcV SPost at HSR
  unfold funcV LiveY at HLY
  unfold funcV at HLN HRY ⊢
  replace HSR := Lib.hid HSR
  replace HLY := Lib.hid HLY
  replace HLN := Lib.hid HLN
  replace HRY := Lib.hid HRY
  have HX := Lib.hid (Box10.new w r F (.slice p F.ins.length c) (.slice p2 F.regions.length c2) 27)
  have HB0 := Lib.hid (show Below w.heap.size w (w.alloc (.cells #[.string r.name, .int .i64 F.params, .int .i64 F.regs, .int .i64 r.frees, .bool r.gen, .int .i64 r.bound, .slice r.np r.nn r.nc, .slice r.cp r.cn r.cc, .slice p F.ins.length c, .slice p2 F.regions.length c2] 27)) from by ((repeat' (first | with_reducible assumption | with_reducible exact Below.refl _ _ | with_reducible refine Below.drew ?_ | with_reducible refine Below.alloc ?_ (by first | omega | (simp; omega) | (simp; done) | fail) _ | with_reducible refine Below.setCell ?_ (by first | omega | (simp; omega) | (simp; done) | fail) _ | fail)); (first | done | fail)))
  have HU := Lib.hid hU
  have HI := Lib.hid hI
  have HR := Lib.hid hR
  clear hU hI hR
  go_enter Tryd.func5, Tryd.ntmps5
  go_wp2_with (first
    | (go_at_call 14; (with_reducible refine (known10 _ (HU.out.keep (by ((repeat' (first | with_reducible assumption | with_reducible exact Below.refl _ _ | with_reducible refine Below.drew ?_ | with_reducible refine Below.alloc ?_ (by first | omega | (simp; omega) | (simp; done) | fail) _ | with_reducible refine Below.setCell ?_ (by first | omega | (simp; omega) | (simp; done) | fail) _ | fail)); (first | done | fail))))).mono ?_); rintro e wA ⟨rfl, hb⟩; have HA := Lib.hid (HB0.out.trans (hb.mono (by simp))); obtain ⟨x0, x1, x2, x3, x4, x5, x6, x7, x8, x9⟩ := (HX.out.keep hb (by simp)).all; have HXA := Lib.hid (HX.out.keep hb (by simp)); clear hb)
    | fail)
  have hsA := World.block_lt_of_cell? _ _ x0
  dsimp only at hsA
  cases hs : soundB F with
  | true =>
    have HL := Lib.hid (HLY.out hs wA (HU.out.keep HA.out) (HI.out.keep HA.out) (HR.out.keep HA.out))
    have HRR := Lib.hid (HRY.out hs)
    rw [hs] at HSR
    clear hs
    go_wp2_with (first
      | (go_at_call 23; (with_reducible refine HL.out.mono ?_); rintro e wB ⟨vL, L, rfl, hLr, hLok, hLx, hb⟩; have HB := Lib.hid (HA.out.trans (hb.mono HA.out.size)); obtain ⟨y0, y1, y2, y3, y4, y5, y6, y7, y8, y9⟩ := (HXA.out.keep hb hsA).all; have HXB := Lib.hid (HXA.out.keep hb hsA); have HLR := Lib.hid hLr; have HLK := Lib.hid hLok; have HLX := Lib.hid hLx; have hsB := World.block_lt_of_cell? _ _ y0; dsimp only at hsB; clear hb hLr hLok hLx x0 x1 x2 x3 x4 x5 x6 x7 x8 x9)
      | (go_at_call 16; (with_reducible refine (HSR.out _ (HU.out.keep HB.out) (HI.out.keep HB.out) (HR.out.keep HB.out)).mono ?_); rintro e wC ⟨rfl, hb⟩; have HC := Lib.hid (HB.out.trans (hb.mono HB.out.size)); obtain ⟨z0, z1, z2, z3, z4, z5, z6, z7, z8, z9⟩ := (HXB.out.keep hb hsB).all; have HLC := Lib.hid (HLR.out.keep hb); clear hb y0 y1 y2 y3 y4 y5 y6 y7 y8 y9)
      | (go_at_call 25; (with_reducible refine (HRR.out _ (HU.out.keep HC.out) (HI.out.keep HC.out) (HR.out.keep HC.out)).mono ?_); rintro e wD ⟨vR, R, rfl, hRr, hRok, hRx, hb⟩; have HD := Lib.hid (HC.out.trans (hb.mono HC.out.size)); have hLR : L = R := rows_ext HLK.out hRok (fun y hy q _ => by rw [Bool.eq_iff_iff]; exact (HLX.out y hy q).trans (hRx y hy q).symm); have HSM := Lib.hid (same_maps vL vR L wD (HLC.out.keep hb) (by rw [hLR]; exact hRr)); clear hb hRr hRok hRx hLR z0 z1 z2 z3 z4 z5 z6 z7 z8 z9)
      | (go_at_call 24; (with_reducible refine HSM.out.mono ?_); rintro e wE ⟨rfl, hb⟩; have HE := Lib.hid (HD.out.trans (hb.mono HD.out.size)); clear hb)
      | fail)
    go_ret
    exact ⟨rfl, HE.out⟩
  | false =>
    have HL := Lib.hid (HLN.out hs wA (HU.out.keep HA.out) (HI.out.keep HA.out) (HR.out.keep HA.out))
    rw [hs] at HSR
    clear hs
    go_wp2_with (first
      | (go_at_call 23; (with_reducible refine HL.out.mono ?_); rintro e wB ⟨rfl, hb⟩; have HB := Lib.hid (HA.out.trans (hb.mono HA.out.size)); obtain ⟨y0, y1, y2, y3, y4, y5, y6, y7, y8, y9⟩ := (HXA.out.keep hb hsA).all; clear hb)
      | (go_at_call 16; (with_reducible refine (HSR.out _ (HU.out.keep HB.out) (HI.out.keep HB.out) (HR.out.keep HB.out)).mono ?_); rintro e wC ⟨rfl, hb⟩; have HC := Lib.hid (HB.out.trans (hb.mono HB.out.size)); clear hb)
      | fail)
    go_ret
    exact ⟨rfl, HC.out⟩
end
section
open Go Go.ChangeShapes Go.WideShapes Go.RowKit
set_option linter.unusedVariables false
set_option linter.unusedSimpArgs false
def outM (F : FuncD) (U : Nat → Value) (k : Nat) : List Value := (List.range F.ins.length).map fun x => if x < k ∧ alB F x = true then U x else .slice none 0 0
theorem outM_zero (F : FuncD) (U : Nat → Value) : outM F U 0 = List.replicate F.ins.length (.slice none 0 0) := by
  unfold outM
  refine List.ext_getElem (by simp) fun i h1 h2 => by simp
theorem outM_at (F : FuncD) (U : Nat → Value) (k : Nat) {x : Nat} (hx : x < F.ins.length) : (outM F U k)[x]? = some (if x < k ∧ alB F x = true then U x else .slice none 0 0) := by
  unfold outM
  rw [List.getElem?_map, List.getElem?_range hx]; rfl
theorem outM_yes {F : FuncD} {U : Nat → Value} {k : Nat} (h : alB F k = true) : (outM F U k).set k (U k) = outM F U (k + 1) := by
  unfold outM
  refine List.ext_getElem (by simp) fun i h1 h2 => ?_
  rw [List.getElem_set]
  simp only [List.getElem_map, List.getElem_range]
  by_cases e : k = i
  · subst e
    rw [if_pos rfl, if_pos ⟨by omega, h⟩]
  · rw [if_neg e]
    by_cases h3 : i < k
    · have h4 : i < k + 1 := by omega
      simp only [h3, h4, true_and]
    · rw [if_neg (fun h => h3 h.1), if_neg (fun h => by have := h.1; omega)]
theorem outM_no {F : FuncD} {U : Nat → Value} {k : Nat} (h : alB F k = false) : outM F U k = outM F U (k + 1) := by
  unfold outM
  refine List.map_congr_left fun i _ => ?_
  by_cases e : i = k
  · subst e
    rw [if_neg (fun h => by have := h.1; omega), if_neg (fun h5 => by have := h5.2; rw [h] at this; cases this)]
  · by_cases h3 : i < k
    · have h4 : i < k + 1 := by omega
      simp only [h3, h4, true_and]
    · rw [if_neg (fun h => h3 h.1), if_neg (fun h => by have := h.1; omega)]
set_option maxRecDepth 100000 in
set_option maxHeartbeats 8000000 in
theorem rmaps_any (r : RestV) (F : FuncD) (iv rv : Value) (hs : soundB F = true) (hnn : F.ins.length ≤ 1048576) (hll : ∀ x, x < F.ins.length → (readsN F x).length ≤ 2097152) (w : World) (hU : Us w) (hI : Ii w iv F.ins) (hR : Rg w rv F.regions) :
    Calls Tryd.prog 35 #[funcV r F iv rv] w fun e B => ∃ v L, e = .returned v ∧ Rr B v (mapsL F L) ∧ OkL (grOf F) L ∧ (∀ y, y < F.ins.length → ∀ q, hasW (L.getD y []) q = true ↔ Lv (grOf F) y q) ∧ Below w.heap.size w B := by
  have HRL := rlive_any r F iv rv hs hnn hll
  obtain ⟨p, c, rfl, _, _, hpi⟩ := ii_form hI
  obtain ⟨p2, c2, rfl, _, _, _⟩ := rg_form hR
  unfold funcV at HRL ⊢
  replace HRL := Lib.hid HRL
  have HPI := Lib.hid hpi
  have HX := Lib.hid (Box10.new w r F (.slice p F.ins.length c) (.slice p2 F.regions.length c2) 27)
  have HB0 := Lib.hid (show Below w.heap.size w (w.alloc (.cells #[.string r.name, .int .i64 F.params, .int .i64 F.regs, .int .i64 r.frees, .bool r.gen, .int .i64 r.bound, .slice r.np r.nn r.nc, .slice r.cp r.cn r.cc, .slice p F.ins.length c, .slice p2 F.regions.length c2] 27)) from by ((repeat' (first | with_reducible assumption | with_reducible exact Below.refl _ _ | with_reducible refine Below.drew ?_ | with_reducible refine Below.alloc ?_ (by first | omega | (simp; omega) | (simp; done) | fail) _ | with_reducible refine Below.setCell ?_ (by first | omega | (simp; omega) | (simp; done) | fail) _ | fail)); (first | done | fail)))
  have HU := Lib.hid hU
  have HI := Lib.hid hI
  have HR := Lib.hid hR
  have hnp := (soundF hs).pos
  have hm1 := made_slices F.ins.length hnn
  clear hU hI hR hpi hs hll
  go_enter Tryd.func35, Tryd.ntmps35
  go_wp2_with (first
    | (go_at_call 25; (with_reducible refine (HRL.out _ (HU.out.keep HB0.out) (HI.out.keep HB0.out) (HR.out.keep HB0.out)).mono ?_); rintro e wD ⟨vL, L, rfl, hRr, hok, hlv, hb⟩; have HBD := Lib.hid (HB0.out.trans (hb.mono (by simp))); have HXD := Lib.hid (HX.out.keep hb (by simp)); obtain ⟨x0, x1, x2, x3, x4, x5, x6, x7, x8, x9⟩ := HXD.out.all; obtain ⟨pL, cL, rfl, hLl, hLc⟩ := hRr; rw [show L.length = F.ins.length from hok.len] at hLl hLc ⊢; have HOK := Lib.hid hok; have HLV := Lib.hid hlv; have HLC := Lib.hid hLc; have hxl := World.block_lt_of_cell? _ _ x0; dsimp only at hxl; clear hb hok hlv hLc)
    | fail)
  obtain ⟨bL, oL, U, rfl, hUx⟩ : ∃ (b off : Nat) (U : Nat → Value), pL = some ⟨b, off, none⟩ ∧ ∀ i, i < F.ins.length → wD.cell? ⟨b, off + i, none⟩ = some (U i) ∧ Rw wD (U i) (L.getD i []) := by
    obtain ⟨b, off, _, rfl, _, _⟩ := HLC.out 0 hnp
    classical
    have h : ∀ i, i < F.ins.length → ∃ u, wD.cell? ⟨b, off + i, none⟩ = some u ∧ Rw wD u (L.getD i []) := fun i hi => by
      obtain ⟨b', off', u, e, h1, h2⟩ := HLC.out i hi
      simp only [Option.some.injEq, Addr.mk.injEq] at e
      obtain ⟨rfl, rfl, _⟩ := e
      exact ⟨u, h1, h2⟩
    exact ⟨b, off, fun i => if h' : i < F.ins.length then Classical.choose (h i h') else .bool false, rfl, fun i hi => by simp only [dif_pos hi]; exact Classical.choose_spec (h i hi)⟩
  have HUX := Lib.hid hUx
  clear hUx x0 x1 x2 x3 x4 x5 x6 x7 x8 x9
  go_loopw [5] (fun s5 wx => ∃ k : Nat, s5 = .int .i64 k ∧ k ≤ F.ins.length ∧ Blk wx wD.heap.size (outM F U k) 52 ∧ Below wD.heap.size wD wx) (fun s5 _ => F.ins.length - (intOf s5).toNat)
  case atStart => exact ⟨0, rfl, Nat.zero_le _, blk_arrS rfl (by rw [outM_zero]; simp), (Below.refl _ _).alloc (Nat.le_refl _) _⟩
  case round =>
    obtain ⟨k, rfl, hk, hbk, hb⟩ := hrel
    have HBK := Lib.hid hbk
    have HB := Lib.hid hb
    have hbs := hb.size
    have hbl := hbk.lt
    obtain ⟨x0, x1, x2, x3, x4, x5, x6, x7, x8, x9⟩ := (HXD.out.keep hb hxl).all
    have hlw : Below w.heap.size w wr := HBD.out.trans (hb.mono HBD.out.size)
    have HLW := Lib.hid hlw
    by_cases hlt : k < F.ins.length
    · obtain ⟨b, off, rfl, hcell⟩ := HPI.out (by omega)
      obtain ⟨lv, hat⟩ := hcell k hlt
      obtain ⟨e0, e1, e2, e3, e4, e5, e6, e7, hll⟩ := hat.keep hlw
      have hal : alB F k = allocB (F.ins.getD k insZ).op := rfl
      generalize F.ins.getD k insZ = i at e0 e1 e2 e3 e4 e5 e6 e7 hll hal
      obtain ⟨hcu, hru⟩ := HUX.out k hlt
      have hcu2 := below_cell hb hcu
      have hco := hbk.cell (outM_at F U k hlt)
      rw [if_neg (fun h => by have := h.1; omega)] at hco
      obtain ⟨pu, cu, hUk, _, _, _⟩ := rw_form hru
      obtain ⟨nb, hnb⟩ : ∃ nb, (L.getD k []).length = nb := ⟨_, rfl⟩
      rw [hnb] at hUk
      have HUK := Lib.hid hUk
      rw [hUk] at hcu2
      have hfo := hbk.frozen k
      have hkz : (k : Int) < (F.ins.length : Int) := by omega
      cases hq : allocB i.op with
      | true =>
        have HRA := Lib.hid (rallocates_any i.op wr)
        rw [hq] at HRA hal
        have HAL := Lib.hid hal
        clear hcell hat hlw hb hbk hal hq hru hll e7 hcu hUk hnb
        go_wp2_with (first
          | (go_at_call 39; (with_reducible refine HRA.out.mono ?_); rintro e wM ⟨rfl, hbM⟩; have HBM := Lib.hid hbM; have zco := below_cell hbM hco; have zcu := below_cell hbM hcu2; have zfo := (HBK.out.block (hbM.block _ hbl)).frozen k; clear hbM x0 x1 x2 x3 x4 x5 x6 x7 x8 x9 e0 e1 e2 e3 e4 e5 e6)
          | fail)
        go_roundw
        case rel => exact ⟨k + 1, by go_num, by omega, by rw [← outM_yes HAL.out, HUK.out]; exact (HBK.out.block (HBM.out.block _ hbl)).set k _, (HB.out.trans (HBM.out.mono hbs)).setCell (Nat.le_refl _) _⟩
        case measure => simp [intOf]; omega
      | false =>
        have HRA := Lib.hid (rallocates_any i.op wr)
        rw [hq] at HRA hal
        have HAL := Lib.hid hal
        clear hcell hat hlw hb hbk hal hq hru hll e7 hcu hUk hnb
        go_wp2_with (first
          | (go_at_call 39; (with_reducible refine HRA.out.mono ?_); rintro e wM ⟨rfl, hbM⟩; have HBM := Lib.hid hbM; clear hbM x0 x1 x2 x3 x4 x5 x6 x7 x8 x9 e0 e1 e2 e3 e4 e5 e6)
          | fail)
        go_roundw
        case rel => exact ⟨k + 1, by go_num, by omega, by rw [← outM_no HAL.out]; exact HBK.out.block (HBM.out.block _ hbl), HB.out.trans (HBM.out.mono hbs)⟩
        case measure => simp [intOf]; omega
    · have hkz : ¬ (k : Int) < (F.ins.length : Int) := by omega
      obtain rfl : k = F.ins.length := by omega
      clear hlw hb hbk
      go_wp2_with fail
      go_ret
      refine ⟨_, rfl, L, ?_, HOK.out, HLV.out, HLW.out⟩
      refine ⟨some ⟨wD.heap.size, 0, none⟩, F.ins.length, by unfold mapsL; rw [List.length_map, List.length_range]; rfl, by unfold mapsL; rw [List.length_map, List.length_range]; omega, fun i hi => ?_⟩
      have hi' : i < F.ins.length := by unfold mapsL at hi; rwa [List.length_map, List.length_range] at hi
      refine ⟨wD.heap.size, 0, _, rfl, by rw [Nat.zero_add]; exact HBK.out.cell (outM_at F U F.ins.length hi'), ?_⟩
      rw [mapsL_at hi']
      by_cases ha : alB F i = true
      · rw [if_pos ⟨hi', ha⟩, if_pos ha]
        exact (HUX.out i hi').2.keep HB.out
      · rw [if_neg (fun h => ha h.2), if_neg ha]
        exact ⟨.inl ⟨none, rfl, rfl⟩, by simp⟩
set_option maxRecDepth 100000 in
set_option maxHeartbeats 8000000 in
theorem law_rmaps (r : RestV) (F : FuncD) (iv rv : Value) (w : World) (hU : Us w) (hI : Ii w iv F.ins) (hR : Rg w rv F.regions) (hnn : F.ins.length ≤ 1048576) (hnr : F.regions.length ≤ 1048576) (hll : ∀ i, i < F.ins.length → (F.ins.getD i insZ).l.length ≤ 1048576) :
    Calls Tryd.prog 9 #[funcV r F iv rv] w fun e w' => e = .returned (.bool true) ∧ Below w.heap.size w w' := by
  have HSR := rsound_any r F iv rv
  have HLY := fun hs => maps_rd r F iv rv hs hnn
  have HLN := fun hs => maps_no r F iv rv hs hnn
  have HRY := fun hs => rmaps_any r F iv rv hs hnn (fun x hx => by
    have h1 := congrArg List.length ((soundF hs).reads_ints hx)
    rw [ints_len] at h1
    have h2 := readsD_len (F.ins.getD x insZ)
    have h3 := hll x hx
    omega)
  obtain ⟨p, c, rfl, _, _, _⟩ := ii_form hI
  obtain ⟨p2, c2, rfl, _, _, _⟩ := rg_form hR
  unfold funcV SPost at HSR
  unfold funcV MapsY at HLY
  unfold funcV at HLN HRY ⊢
  replace HSR := Lib.hid HSR
  replace HLY := Lib.hid HLY
  replace HLN := Lib.hid HLN
  replace HRY := Lib.hid HRY
  have HX := Lib.hid (Box10.new w r F (.slice p F.ins.length c) (.slice p2 F.regions.length c2) 27)
  have HB0 := Lib.hid (show Below w.heap.size w (w.alloc (.cells #[.string r.name, .int .i64 F.params, .int .i64 F.regs, .int .i64 r.frees, .bool r.gen, .int .i64 r.bound, .slice r.np r.nn r.nc, .slice r.cp r.cn r.cc, .slice p F.ins.length c, .slice p2 F.regions.length c2] 27)) from by ((repeat' (first | with_reducible assumption | with_reducible exact Below.refl _ _ | with_reducible refine Below.drew ?_ | with_reducible refine Below.alloc ?_ (by first | omega | (simp; omega) | (simp; done) | fail) _ | with_reducible refine Below.setCell ?_ (by first | omega | (simp; omega) | (simp; done) | fail) _ | fail)); (first | done | fail)))
  have HU := Lib.hid hU
  have HI := Lib.hid hI
  have HR := Lib.hid hR
  clear hU hI hR
  go_enter Tryd.func9, Tryd.ntmps9
  go_wp2_with (first
    | (go_at_call 33; (with_reducible refine (known12 _ (HU.out.keep (by ((repeat' (first | with_reducible assumption | with_reducible exact Below.refl _ _ | with_reducible refine Below.drew ?_ | with_reducible refine Below.alloc ?_ (by first | omega | (simp; omega) | (simp; done) | fail) _ | with_reducible refine Below.setCell ?_ (by first | omega | (simp; omega) | (simp; done) | fail) _ | fail)); (first | done | fail))))).mono ?_); rintro e wA ⟨rfl, hb⟩; have HA := Lib.hid (HB0.out.trans (hb.mono (by simp))); obtain ⟨x0, x1, x2, x3, x4, x5, x6, x7, x8, x9⟩ := (HX.out.keep hb (by simp)).all; have HXA := Lib.hid (HX.out.keep hb (by simp)); clear hb)
    | fail)
  have hsA := World.block_lt_of_cell? _ _ x0
  dsimp only at hsA
  cases hs : soundB F with
  | true =>
    have HL := Lib.hid (HLY.out hs wA (HU.out.keep HA.out) (HI.out.keep HA.out) (HR.out.keep HA.out))
    have HRR := Lib.hid (HRY.out hs)
    rw [hs] at HSR
    clear hs
    go_wp2_with (first
      | (go_at_call 34; (with_reducible refine HL.out.mono ?_); rintro e wB ⟨vL, L, rfl, hLr, hLok, hLx, hb⟩; have HB := Lib.hid (HA.out.trans (hb.mono HA.out.size)); obtain ⟨y0, y1, y2, y3, y4, y5, y6, y7, y8, y9⟩ := (HXA.out.keep hb hsA).all; have HXB := Lib.hid (HXA.out.keep hb hsA); have HLR := Lib.hid hLr; have HLK := Lib.hid hLok; have HLX := Lib.hid hLx; have hsB := World.block_lt_of_cell? _ _ y0; dsimp only at hsB; clear hb hLr hLok hLx x0 x1 x2 x3 x4 x5 x6 x7 x8 x9)
      | (go_at_call 16; (with_reducible refine (HSR.out _ (HU.out.keep HB.out) (HI.out.keep HB.out) (HR.out.keep HB.out)).mono ?_); rintro e wC ⟨rfl, hb⟩; have HC := Lib.hid (HB.out.trans (hb.mono HB.out.size)); obtain ⟨z0, z1, z2, z3, z4, z5, z6, z7, z8, z9⟩ := (HXB.out.keep hb hsB).all; have HLC := Lib.hid (HLR.out.keep hb); clear hb y0 y1 y2 y3 y4 y5 y6 y7 y8 y9)
      | (go_at_call 35; (with_reducible refine (HRR.out _ (HU.out.keep HC.out) (HI.out.keep HC.out) (HR.out.keep HC.out)).mono ?_); rintro e wD ⟨vR, R, rfl, hRr, hRok, hRx, hb⟩; have HD := Lib.hid (HC.out.trans (hb.mono HC.out.size)); have hLR : L = R := rows_ext HLK.out hRok (fun y hy q _ => by rw [Bool.eq_iff_iff]; exact (HLX.out y hy q).trans (hRx y hy q).symm); have HSM := Lib.hid (same_maps vL vR (mapsL F L) wD (HLC.out.keep hb) (by rw [hLR]; exact hRr)); clear hb hRr hRok hRx hLR z0 z1 z2 z3 z4 z5 z6 z7 z8 z9)
      | (go_at_call 24; (with_reducible refine HSM.out.mono ?_); rintro e wE ⟨rfl, hb⟩; have HE := Lib.hid (HD.out.trans (hb.mono HD.out.size)); clear hb)
      | fail)
    go_ret
    exact ⟨rfl, HE.out⟩
  | false =>
    have HL := Lib.hid (HLN.out hs wA (HU.out.keep HA.out) (HI.out.keep HA.out) (HR.out.keep HA.out))
    rw [hs] at HSR
    clear hs
    go_wp2_with (first
      | (go_at_call 34; (with_reducible refine HL.out.mono ?_); rintro e wB ⟨rfl, hb⟩; have HB := Lib.hid (HA.out.trans (hb.mono HA.out.size)); obtain ⟨y0, y1, y2, y3, y4, y5, y6, y7, y8, y9⟩ := (HXA.out.keep hb hsA).all; clear hb)
      | (go_at_call 16; (with_reducible refine (HSR.out _ (HU.out.keep HB.out) (HI.out.keep HB.out) (HR.out.keep HB.out)).mono ?_); rintro e wC ⟨rfl, hb⟩; have HC := Lib.hid (HB.out.trans (hb.mono HB.out.size)); clear hb)
      | fail)
    go_ret
    exact ⟨rfl, HC.out⟩
end
end Go.Proofs.YtnniohimbmnapaaDoor
