/- Layer 10: a function one of whose instructions does nothing: it is sound, and what is live in it. -/
import Derived.Test.YtnniohimbmnapaaDoorLess
import Derived.Test.YtnniohimbmnapaaDoorFGr
namespace Go.Proofs.YtnniohimbmnapaaDoor
open Go Go.ChangeShapes Go.WideShapes Go.RowKit
set_option linter.unusedVariables false
set_option linter.unusedSimpArgs false
def noF (F : FuncD) (x : Nat) : FuncD := { F with ins := F.ins.set x insZ }
theorem noF_len (F : FuncD) (x : Nat) : (noF F x).ins.length = F.ins.length := by simp [noF]
theorem noF_at {F : FuncD} {x : Nat} (hx : x < F.ins.length) : (noF F x).ins.getD x insZ = insZ := by
  simp [noF, List.getD_eq_getElem?_getD, hx]
theorem noF_ne {F : FuncD} {x y : Nat} (h : y ≠ x) : (noF F x).ins.getD y insZ = F.ins.getD y insZ := by
  simp [noF, List.getD_eq_getElem?_getD, List.getElem?_set, Ne.symm h]
theorem readsZ : readsD insZ = [] := by decide +kernel
theorem writesZ : writesD insZ = [] := by decide +kernel
theorem noJumpZ : doesB 0 128 = false ∧ doesB 0 32 = false ∧ allocB 0 = false := by decide +kernel
theorem goesZ (x : Nat) (hx : x < 1048576) : goesD insZ x = [((x + 1 : Nat) : Int)] := by
  unfold goesD
  rw [show insZ.op = 0 from rfl, noJumpZ.1, noJumpZ.2.1]
  simp only [Bool.false_eq_true, if_false, List.append_nil]
  rw [show nextI (x : Int) = x + 1 from if_pos (by omega)]
  rfl
theorem no_jump_at : ∀ k, k < 45 → k ≠ 18 → k ≠ 41 → k ≠ 42 → (bits .and .i64 (usesL.getD k 0) 128 != 0) = false := by decide +kernel
theorem no_jump {op : Int} (h1 : op ≠ 18) (h2 : op ≠ 41) (h3 : op ≠ 42) : doesB op 128 = false := by
  by_cases h : 0 ≤ op ∧ op < 45
  · rw [doesB_yes h]
    obtain ⟨k, rfl⟩ := Int.eq_ofNat_of_zero_le h.1
    exact no_jump_at k (by omega) (by omega) (by omega) (by omega)
  · exact doesB_no h
theorem noF_sound {F : FuncD} {x : Nat} (hs : soundB F = true) (hx : x + 1 < F.ins.length) (hn : F.ins.length ≤ 1048576) : soundB (noF F x) = true := by
  unfold soundB at hs ⊢
  simp only [Bool.and_eq_true, List.all_eq_true, List.mem_range] at hs ⊢
  obtain ⟨⟨h1, h2⟩, h3⟩ := hs
  refine ⟨⟨?_, fun k hk => ?_⟩, fun q hq => ?_⟩
  · unfold headOk at h1 ⊢
    rw [noF_len]
    exact h1
  · rw [noF_len] at hk
    unfold insOk
    rw [noF_len]
    by_cases e : k = x
    · subst e
      rw [noF_at hk, readsZ, writesZ, goesZ k (by omega)]
      simp [withinB]
      omega
    · rw [noF_ne e]
      have := h2 k hk
      unfold insOk at this
      exact this
  · have := h3 q hq
    unfold regOk at this ⊢
    rw [noF_len]
    exact this
theorem noF_handler {F : FuncD} {x y : Nat} (h : y ≠ x) : handlerI (noF F x) y = handlerI F y := by
  unfold handlerI
  rw [noF_len, Int.toNat_natCast, noF_ne h]
  rfl
theorem noF_handler_x {F : FuncD} {x : Nat} (hx : x < F.ins.length) : handlerI (noF F x) x = -1 := by
  unfold handlerI
  rw [noF_len, Int.toNat_natCast, noF_at hx, show insZ.op = 0 from rfl, noJumpZ.2.2]
  simp
theorem noF_ways {F : FuncD} {x y : Nat} (h : y ≠ x) : waysN (noF F x) y = waysN F y := by
  unfold waysN waysD goeL hanL wrL
  rw [noF_handler h, noF_ne h]
  rfl
theorem noF_ways_x {F : FuncD} {x : Nat} (hx : x < F.ins.length) (hn : F.ins.length ≤ 1048576) : waysN (noF F x) x = [(x + 1, [])] := by
  unfold waysN waysD hanL wrL goeL
  rw [noF_handler_x hx, noF_at hx, goesZ x (by omega), writesZ]
  simp [nats]
theorem noF_live {F : FuncD} {x y r : Nat} (hs : soundB F = true) (hx : x < F.ins.length) (hn : F.ins.length ≤ 1048576) (h1 : (F.ins.getD x insZ).op ≠ 18) (h2 : (F.ins.getD x insZ).op ≠ 41) (h3 : (F.ins.getD x insZ).op ≠ 42)
    (h : Lv (grOf (noF F x)) y r) (hr : (r : Int) ∉ writesD (F.ins.getD x insZ)) : Lv (grOf F) y r := by
  refine less_live (G := grOf F) (G' := grOf (noF F x)) (x := x) (W := nats (writesD (F.ins.getD x insZ))) (fun y hy => ?_) ?_ (fun y hy => noF_ways (F := F) hy) (fun w hw => ?_) h (fun hm => ?_)
  · show readsN _ y = readsN F y
    unfold readsN
    rw [noF_ne hy]
  · show readsN (noF F x) x = []
    unfold readsN
    rw [noF_at hx, readsZ]
    rfl
  · have hw' : w ∈ waysN (noF F x) x := hw
    rw [noF_ways_x hx hn] at hw'
    obtain rfl := List.mem_singleton.1 hw'
    refine ⟨(x + 1, nats (writesD (F.ins.getD x insZ))), ?_, rfl, fun r hr => .inl hr⟩
    show _ ∈ waysN F x
    unfold waysN
    rw [List.mem_map]
    have hg : goeL F x = ((x + 1 : Nat) : Int) :: (if doesB (F.ins.getD x insZ).op 32 then [(F.ins.getD x insZ).t] else []) := by
      unfold goeL goesD
      rw [no_jump h1 h2 h3]
      simp only [Bool.false_eq_true, if_false]
      rw [show nextI (x : Int) = x + 1 from if_pos (by omega)]
      rfl
    have hw0 : wrL F x 0 = writesD (F.ins.getD x insZ) := if_pos ⟨rfl, h1⟩
    refine ⟨(((x + 1 : Nat) : Int), writesD (F.ins.getD x insZ)), ?_, by simp⟩
    unfold waysD
    refine List.mem_append.2 (.inl (List.mem_map.2 ⟨0, by rw [hg]; simp, ?_⟩))
    rw [hg, hw0]
    rfl
  · unfold nats at hm
    obtain ⟨z, hz, rfl⟩ := List.mem_map.1 hm
    have := (soundF hs).writes x hx z hz
    rw [Int.toNat_of_nonneg this.1] at hr
    exact hr hz
end Go.Proofs.YtnniohimbmnapaaDoor
