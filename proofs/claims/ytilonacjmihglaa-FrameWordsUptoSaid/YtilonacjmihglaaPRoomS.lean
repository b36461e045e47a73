/- Layer 2's Room and Kept, as a text of their own. -/
import Derived.Test.YtilonacjmihglaaPOwn
import Derived.Test.YtilonacjmihglaaPGCheck
import Derived.ProofKit
import Derived.OpenShut
import Derived.OwnWalk
import Derived.Outline
import Derived.Lib.Hide
import Derived.BigQuiet
import Derived.Deep.QuietTactic
import Derived.WalkSmall
import Derived.LoopTactic
import Derived.BigRegion
import Derived.WalkLawsBesides
import Derived.Deep.CutRange
import Derived.Deep.CutBlock
import Derived.Shelf.Spec.BitsCarry
import Derived.Deep.RegionWith
import Derived.Deep.RegionHeld3
import Derived.Deep.DeepCutAuto
import Derived.Lib.AppendStr
import Derived.Laws.Externs
import Derived.Deep.Cut
import Derived.Lib.ItoaNum
import Derived.Maps.AppendAt
import Derived.Laws.AppendOwnNone
import Derived.RegionTactic
import Derived.Laws.Rows
import Derived.ArgAppend
import Derived.WalkKit
import Derived.WalkSpells
namespace Go.Proofs.Ytilonacjmihglaa
open Go Go.ChangeShapes Go.WideShapes Go.ChangeAt Go.RowKit
set_option linter.unusedVariables false
set_option linter.unusedSimpArgs false
theorem getD_set' (ws : List Int) (q : Nat) (x : Int) (i : Nat) (hq : q < ws.length) : (ws.set q x).getD i 0 = if i = q then x else ws.getD i 0 := by
  simp only [List.getD_eq_getElem?_getD, List.getElem?_set]
  by_cases h : q = i
  · subst h; simp [hq]
  · rw [if_neg h, if_neg (fun e => h e.symm)]
theorem rd_form {w : World} {u : Value} {ws : List Int} (h : Rd w u ws) : ∃ p c, u = .slice p ws.length c ∧ ws.length ≤ c ∧ ws.length ≤ 17592186043904 ∧
    (0 < ws.length → ∃ b off, p = some ⟨b, off, none⟩ ∧ ∀ i, i < ws.length → w.cell? ⟨b, off + i, none⟩ = some (.int .u64 (ws.getD i 0))) := by
  rcases h with ⟨p, rfl, rfl⟩ | ⟨b, off, c, rfl, h1, h2, h3⟩
  · exact ⟨p, 0, rfl, by simp, by simp, fun h => by simp at h⟩
  · exact ⟨_, c, rfl, h1, h2, fun _ => ⟨b, off, rfl, h3⟩⟩
def BoolPost (W : World) (b : Bool) (e : Ending) (w' : World) : Prop := e = .returned (.bool b) ∧ Below W.heap.size W w'
theorem BoolPost.mk {W w' : World} {b c : Bool} (h : c = b) (hb : Below W.heap.size W w') : BoolPost W b (.returned (.bool c)) w' := ⟨by rw [h], hb⟩
/-- What copy leaves of a new row of noughts. -/
theorem sizeU64r : (Try.prog.info? 29).map (·.size) = some 1 := by kernel_rfl
abbrev U64 : TypeId := 29
abbrev LU (w : World) (g : Nat) (ws : List Int) : Prop := LR .u64 U64 w g ws
abbrev MU (w : World) (B : Nat) (u : Value) (ws : List Int) : Prop := Mine .u64 U64 w B u ws
/-- What copy leaves of a new row of noughts. -/
theorem splice_new (n m : Nat) (ws : List Int) (hl : ws.length = n) : splice ((List.replicate (n + m) (0 : Int)).map (Value.int .u64)) 0 (ws.map (Value.int .u64)) = (ws ++ List.replicate m 0).map (Value.int .u64) := by
  unfold splice
  subst hl
  simp
theorem LU.of_splice {w : World} {g n m : Nat} {ws : List Int} (hl : ws.length = n) (h : Hid (w.heap[g]? = some (.cells (splice ((List.replicate (n + m) (0 : Int)).map (Value.int .u64)) 0 (ws.map (Value.int .u64))).toArray U64 (0, 0)))) : LU w g (ws ++ List.replicate m 0) := by
  have := h.out
  rw [splice_new n m ws hl] at this
  exact this
/-- The source of a copy, cell by cell. -/
theorem src_cells {w : World} {p : Option Addr} {ws : List Int} (hp : 0 < ws.length → ∃ b off, p = some ⟨b, off, none⟩ ∧ ∀ i, i < ws.length → w.cell? ⟨b, off + i, none⟩ = some (.int .u64 (ws.getD i 0))) (h0 : 0 < (ws.map (Value.int .u64)).length) :
    ∃ ad, p = some ad ∧ ∀ j v, (ws.map (Value.int .u64))[j]? = some v → w.cell? (ad.add j) = some v := by
  obtain ⟨b, off, rfl, hc⟩ := hp (by simpa using h0)
  refine ⟨_, rfl, fun j v hj => ?_⟩
  have hj' : j < ws.length := by
    rw [List.getElem?_eq_some_iff] at hj
    simpa using hj.1
  have := hc j hj'
  rw [show (⟨b, off, none⟩ : Addr).add j = ⟨b, off + j, none⟩ by unfold Addr.add; split <;> simp_all, this]
  rw [List.getElem?_map, List.getElem?_eq_getElem hj'] at hj
  simp only [Option.map_some, Option.some.injEq] at hj
  rw [← hj, List.getD_eq_getElem?_getD, List.getElem?_eq_getElem hj']
  rfl
theorem one_cells (ws : List Int) : ∀ v ∈ ws.map (Value.int .u64), v.oneCell' = true := by simp [Value.oneCell']
theorem min_len (ws : List Int) (m : Nat) : (ws.map (Value.int .u64)).length = Nat.min ws.length (ws.length + m) := by
  rw [List.length_map]; exact (Nat.min_eq_left (by omega)).symm
theorem fit_len (ws : List Int) (m : Nat) : 0 + (ws.map (Value.int .u64)).length ≤ ((List.replicate (ws.length + m) (0 : Int)).map (Value.int .u64)).length := by
  simp
theorem list_ext_getD {xs ys : List Int} (hl : xs.length = ys.length) (h : ∀ i, i < xs.length → xs.getD i 0 = ys.getD i 0) : xs = ys := by
  apply List.ext_getElem hl
  intro i h1 h2
  have := h i h1
  simpa [List.getD_eq_getElem?_getD, h1, h2] using this
theorem sliceU : Try.prog.underlying 22 = some (.slice (Try.prog.elem 22)) := by kernel_rfl
theorem sizeU : ∀ wx, (sizeOf (Try.prog.elem 22)).run Try.prog wx = .ok 1 wx := fun wx => by kernel_rfl
theorem app_left {α : Type} {a b : List α} {d : α} {i : Nat} (h : i < a.length) : (a ++ b).getD i d = a.getD i d := by
  rw [List.getD_eq_getElem?_getD, List.getElem?_append_left h, ← List.getD_eq_getElem?_getD]
theorem app_right {α : Type} {a b : List α} {d : α} {i : Nat} (h : a.length ≤ i) : (a ++ b).getD i d = b.getD (i - a.length) d := by
  rw [List.getD_eq_getElem?_getD, List.getElem?_append_right h, ← List.getD_eq_getElem?_getD]
/-- The row and its marks. -/
def roomL (ws : List Int) : List Int := ws ++ (List.range 6).map fun i => 7770000 + ((ws.length + i : Nat) : Int)
theorem roomL_len (ws : List Int) : (roomL ws).length = ws.length + 6 := by simp [roomL]
theorem roomL_lo {ws : List Int} {i : Nat} (h : i < ws.length) : (roomL ws).getD i 0 = ws.getD i 0 := app_left h
theorem roomL_hi {ws : List Int} {i : Nat} (h : ws.length ≤ i) (h' : i < ws.length + 6) : (roomL ws).getD i 0 = 7770000 + (i : Int) := by
  rw [roomL, app_right h, List.getD_eq_getElem?_getD, List.getElem?_map, List.getElem?_range (by omega)]
  simp only [Option.map_some, Option.getD_some]
  omega
theorem ksl_to {P : Program} (t : TypeId) (ht : P.underlying t = some (.slice (P.elem t))) (hsz : ∀ wx, (sizeOf (P.elem t)).run P wx = .ok 1 wx) (b off n c hi : Nat) (h : hi ≤ c) :
    ∀ wx, (Instr.slice t (.slice (some ⟨b, off, none⟩) n c) none (some (.int .i64 (hi : Int))) none).run P wx = .ok (.slice (some ⟨b, off, none⟩) hi c) wx := fun wx => by
  rw [run_slice_h wx t _ n c ht .i64 (hi : Int) (by omega) (by omega), hsz]
  simp [Result.andThen, sliced, Addr.add]
/-- The first m places are as they should be. -/
def RoomTo (ws : List Int) (m : Nat) (os : List Int) : Prop := os.length = ws.length + 6 ∧ ∀ j, j < m → os.getD j 0 = (roomL ws).getD j 0
theorem RoomTo.start (ws : List Int) : RoomTo ws ws.length (ws ++ List.replicate 6 0) := ⟨by simp, fun j hj => by rw [app_left hj, roomL_lo hj]⟩
theorem RoomTo.step {ws os : List Int} {m : Nat} (h : RoomTo ws m os) (h1 : ws.length ≤ m) (h2 : m < ws.length + 6) : RoomTo ws (m + 1) (os.set m (7770000 + (m : Int))) := by
  have hl := h.1
  refine ⟨by rw [List.length_set]; exact hl, fun j hj => ?_⟩
  rw [getD_set' _ _ _ _ (by omega)]
  by_cases e : j = m
  · rw [if_pos e, e, roomL_hi h1 h2]
  · rw [if_neg e]; exact h.2 j (by omega)
theorem RoomTo.all {ws os : List Int} (h : RoomTo ws (ws.length + 6) os) : os = roomL ws :=
  list_ext_getD (h.1.trans (roomL_len ws).symm) fun j hj => h.2 j (by have := h.1; omega)
def RoomPost (W : World) (ws : List Int) (e : Ending) (w' : World) : Prop :=
  ∃ g, e = .returned (.slice (some ⟨g, 0, none⟩) ws.length (ws.length + 6)) ∧ LU w' g (roomL ws) ∧ W.heap.size ≤ g ∧ Below W.heap.size W w'
end Go.Proofs.Ytilonacjmihglaa
