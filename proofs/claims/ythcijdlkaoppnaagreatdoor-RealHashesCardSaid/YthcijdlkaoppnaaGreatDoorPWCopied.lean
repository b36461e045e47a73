/- Layer 2: whole.copied: the number of these limbs with a list of its own. -/
import Derived.Test.YthcijdlkaoppnaaGreatDoorPWMade
import Derived.Test.YthcijdlkaoppnaaGreatDoorPOwn
namespace Go.Proofs.YthcijdlkaoppnaaGreatDoor
open Go.ChangeShapes Go.WideShapes Go.ChangeAt Go.RowKit
set_option linter.unusedVariables false
set_option linter.unusedSimpArgs false
theorem infoU64 : (Tryz.prog.info? 22).map (fun i => (i.zero, i.size, i.bytes)) = some (some (.int .u64 0), 1, 8) := by kernel_rfl
theorem sizeU64 : (Tryz.prog.info? 22).map (·.size) = some 1 := by kernel_rfl
abbrev U64 : TypeId := 22
abbrev LU (w : World) (g : Nat) (ws : List Int) : Prop := LR .u64 U64 w g ws
abbrev MU (w : World) (B : Nat) (u : Value) (ws : List Int) : Prop := Mine .u64 U64 w B u ws
/-- What copy leaves of a new row of noughts. -/
theorem splice_new (n m : Nat) (ws : List Int) (hl : ws.length = n) : splice ((List.replicate (n + m) (0 : Int)).map (Value.int .u64)) 0 (ws.map (Value.int .u64)) = (ws ++ List.replicate m 0).map (Value.int .u64) := by
  unfold splice
  subst hl
  simp
theorem LU.of_splice {w : World} {g n m : Nat} {ws : List Int} (hl : ws.length = n) (h : Hid (w.heap[g]? = some (.cells (splice ((List.replicate (n + m) (0 : Int)).map (Value.int .u64)) 0 (ws.map (Value.int .u64))).toArray U64 (0, 0)))) : LU w g (ws ++ List.replicate m 0) := by
  have := h.out
  rw [splice_new n m ws hl] at this
  exact this
/-- The source of a copy, cell by cell. -/
theorem src_cells {w : World} {p : Option Addr} {ws : List Int} (hp : 0 < ws.length → ∃ b off, p = some ⟨b, off, none⟩ ∧ ∀ i, i < ws.length → w.cell? ⟨b, off + i, none⟩ = some (.int .u64 (ws.getD i 0))) (h0 : 0 < (ws.map (Value.int .u64)).length) :
    ∃ ad, p = some ad ∧ ∀ j v, (ws.map (Value.int .u64))[j]? = some v → w.cell? (ad.add j) = some v := by
  obtain ⟨b, off, rfl, hc⟩ := hp (by simpa using h0)
  refine ⟨_, rfl, fun j v hj => ?_⟩
  have hj' : j < ws.length := by
    rw [List.getElem?_eq_some_iff] at hj
    simpa using hj.1
  have := hc j hj'
  rw [show (⟨b, off, none⟩ : Addr).add j = ⟨b, off + j, none⟩ by unfold Addr.add; split <;> simp_all, this]
  rw [List.getElem?_map, List.getElem?_eq_getElem hj'] at hj
  simp only [Option.map_some, Option.some.injEq] at hj
  rw [← hj, List.getD_eq_getElem?_getD, List.getElem?_eq_getElem hj']
  rfl
theorem one_cells (ws : List Int) : ∀ v ∈ ws.map (Value.int .u64), v.oneCell' = true := by simp [Value.oneCell']
def CopiedPost (W : World) (neg : Bool) (ws : List Int) (e : Ending) (w' : World) : Prop :=
  ∃ k g, CutAt ws k ∧ W.heap.size ≤ g ∧ e = .returned (madeV neg (some ⟨g, 0, none⟩) k) ∧ LU w' g ws ∧ Below W.heap.size W w'
end Go.Proofs.YthcijdlkaoppnaaGreatDoor
