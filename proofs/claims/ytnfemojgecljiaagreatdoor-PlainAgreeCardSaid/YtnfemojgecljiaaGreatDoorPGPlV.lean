/- Opening an argument that is a plain value (a struct of a kind, a truth, a number, bits, a text and items): what the walk is told of it. Layer 15: the list of the laid variables of the row. -/
import Derived.Test.YtnfemojgecljiaaGreatDoorPOpenBig
import Derived.Deep.Slices
import Derived.Deep.Fields
import Derived.ChangeMaps5
import Derived.Test.YtnfemojgecljiaaGreatDoorRows
import Derived.ProofKit
import Derived.OpenShut
import Derived.SizedLaws
import Derived.Lib.SmallJoins
import Derived.Carry
import Derived.MakeChecks
import Derived.ChangeArms
namespace Go.Proofs.YtnfemojgecljiaaGreatDoor
section
open Go.ChangeShapes Go.WideShapes Go.ChangeAt Go.RowKit Go.Joins
set_option linter.unusedVariables false
set_option linter.unusedSimpArgs false
theorem array7 {a : Array Value} (h : a.size = 7) : ∃ c0 c1 c2 c3 c4 c5 c6, a = #[c0, c1, c2, c3, c4, c5, c6] := by
  obtain ⟨l⟩ := a
  match l, h with
  | [c0, c1, c2, c3, c4, c5, c6], _ => exact ⟨c0, c1, c2, c3, c4, c5, c6, rfl⟩
theorem list6 {α : Type} {l : List α} (h : l.length = 6) : ∃ c0 c1 c2 c3 c4 c5, l = [c0, c1, c2, c3, c4, c5] := by
  match l, h with
  | [c0, c1, c2, c3, c4, c5], _ => exact ⟨c0, c1, c2, c3, c4, c5, rfl⟩
set_option maxRecDepth 100000 in
set_option maxHeartbeats 1000000 in
theorem open_val {H : Type} {enc : TypeId × Value → H} {W : World} {b0 : Nat} {v : Value} {d : DataW H} {p : List MemPlace} (hv : Value.okWide Tryz.prog W .any b0 28 v)
    (h : DataW.Trod enc Tryz.prog W 0 (fun _ => true) true 28 v d p) (hz : ∀ x ∈ DataW.weights Tryz.prog 28 d, x ≤ reachBytes) :
    ∃ (k : Int) (y n : Bool) (u : Value) (ws : List Int) (b : Nat) (s : ByteArray) (ip : Option Addr) (m ic : Nat), v = .agg #[.int .i64 k, .bool y, .bool n, u, .int .u64 (b : Int), .string s, .slice ip m ic] ∧ Rd W u ws ∧ Fit ws ∧ b < 18446744073709551616 ∧ m ≤ maxLen ∧ s.size ≤ maxLen := by
  obtain ⟨cs, rfl, hsz⟩ := okWide_struct Tryz.underlying28 hv
  obtain ⟨c0, c1, c2, c3, c4, c5, c6, rfl⟩ := array7 (hsz.trans (by kernel_rfl))
  obtain ⟨fuel, hf⟩ := h
  obtain ⟨ys, n, hx, hy0, hlen, hyl, hfl⟩ := DataW.trod_struct Tryz.underlying28 hf
  obtain ⟨y0, y1, y2, y3, y4, y5, rfl⟩ := list6 (hyl.trans rfl)
  obtain ⟨rfl, rfl⟩ : d = _ ∧ p = _ := by injection hy0 with e1 e2; exact ⟨e1, e2⟩
  have g0 := hfl 0 _ rfl
  have g1 := hfl 1 _ rfl
  have g2 := hfl 2 _ rfl
  have g3 := hfl 3 _ rfl
  have g4 := hfl 4 _ rfl
  have g5 := hfl 5 _ rfl
  have C1 : ∀ t, t = 3 ∨ t = 4 ∨ t = 25 ∨ t = 9 ∨ t = 26 → Tryz.prog.cellsOf t = 1 := by
    intro t ht
    rcases ht with rfl | rfl | rfl | rfl | rfl <;> kernel_rfl
  have C2 : Tryz.prog.cellsOf 24 = 2 := by kernel_rfl
  (try dsimp only at g0)
  (try rw [C1 _ (.inl rfl)] at g0)
  (try dsimp only at g1)
  (try rw [C1 _ (.inr (.inl rfl))] at g1)
  (try dsimp only at g2)
  (try rw [C2] at g2)
  (try dsimp only at g3)
  (try rw [C1 _ (.inr (.inr (.inl rfl)))] at g3)
  (try dsimp only at g4)
  (try rw [C1 _ (.inr (.inr (.inr (.inl rfl))))] at g4)
  (try dsimp only at g5)
  (try rw [C1 _ (.inr (.inr (.inr (.inr rfl))))] at g5)
  change DataW.trod enc Tryz.prog W 0 (fun _ => true) true n 3 [c0] = some y0 at g0
  change DataW.trod enc Tryz.prog W 0 (fun _ => true) true n 4 [c1] = some y1 at g1
  change DataW.trod enc Tryz.prog W 0 (fun _ => true) true n 24 [c2, c3] = some y2 at g2
  change DataW.trod enc Tryz.prog W 0 (fun _ => true) true n 25 [c4] = some y3 at g3
  change DataW.trod enc Tryz.prog W 0 (fun _ => true) true n 9 [c5] = some y4 at g4
  change DataW.trod enc Tryz.prog W 0 (fun _ => true) true n 26 [c6] = some y5 at g5
  obtain ⟨k, e0, _, _⟩ := DataW.trod_int Tryz.underlying3 g0
  obtain ⟨y, e1, _⟩ := DataW.trod_bool Tryz.underlying4 g1
  obtain ⟨b, e3, _, wb⟩ := DataW.trod_int Tryz.underlying25 g3
  obtain ⟨s, e4, _, hs⟩ := DataW.trod_string Tryz.underlying9 g4
  simp only [List.cons.injEq, and_true] at e0 e1 e3 e4
  subst e0 e1 e3 e4
  have wb2 : 0 ≤ b ∧ b ≤ 18446744073709551615 := by simpa [Lit.wf, IntKind.min, IntKind.max, IntKind.signed, IntKind.bits] using wb
  obtain ⟨bn, rfl⟩ : ∃ bn : Nat, b = (bn : Int) := ⟨b.toNat, by omega⟩
  obtain ⟨ip, m, ic, rfl, hm⟩ : ∃ (ip : Option Addr) (m ic : Nat), c6 = .slice ip m ic ∧ m ≤ maxLen := by
    rcases Go.Deep.open_slice Tryz.underlying26 g5 with ⟨hcs, _⟩ | ⟨a, len, cap, _, _, _, _, hcs, _, hl, hmx, _⟩
    · simp only [List.cons.injEq, and_true] at hcs
      exact ⟨none, 0, 0, hcs, by unfold maxLen; omega⟩
    · simp only [List.cons.injEq, and_true] at hcs
      exact ⟨_, len, cap, hcs, by omega⟩
  obtain ⟨zs, q, _, hz0, _, hzl, hzf⟩ := DataW.trod_struct Tryz.underlying24 g2
  obtain ⟨z0, z1, rfl⟩ : ∃ z0 z1, zs = [z0, z1] := by
    match zs, hzl with
    | [z0, z1], _ => exact ⟨z0, z1, rfl⟩
  have k0 := hzf 0 _ rfl
  have k1 := hzf 1 _ rfl
  have C3 : Tryz.prog.cellsOf 22 = 1 := by kernel_rfl
  (try dsimp only at k0)
  (try rw [C1 _ (.inr (.inl rfl))] at k0)
  (try dsimp only at k1)
  (try rw [C3] at k1)
  change DataW.trod enc Tryz.prog W 0 (fun _ => true) true q 4 [c2] = some z0 at k0
  change DataW.trod enc Tryz.prog W 0 (fun _ => true) true q 22 [c3] = some z1 at k1
  obtain ⟨nn, e2, _⟩ := DataW.trod_bool Tryz.underlying4 k0
  simp only [List.cons.injEq, and_true] at e2
  subst e2
  obtain ⟨ws, hr, hfit⟩ := open_words k1 (fun x hx => hz x (by
    rw [hz0]
    simp [DataW.weights, DataW.weightsEach, Tryz.underlying28, Tryz.underlying24]
    exact .inr (.inr (.inr (.inl hx)))))
  exact ⟨k, y, nn, c3, ws, bn, s, ip, m, ic, rfl, hr, hfit, by omega, hm, hs⟩
end
section
open Go.ChangeShapes Go.WideShapes Go.ChangeAt Go.RowKit Go.Joins
set_option linter.unusedVariables false
set_option linter.unusedSimpArgs false
set_option maxRecDepth 100000
theorem ownR : ownKnob Tryz.prog.godebug = none := by kernel_rfl
def lists : List (String × DataW Unit) := Rows.plainAgreeRow.laid
theorem noHandles : (lists.all fun x => x.2.handleName?.isNone) = true := by kernel_rfl
end
end Go.Proofs.YtnfemojgecljiaaGreatDoor
