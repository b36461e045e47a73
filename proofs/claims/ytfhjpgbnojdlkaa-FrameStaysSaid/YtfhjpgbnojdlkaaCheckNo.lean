/- When the sizes of a memory or its first word are wrong, Check answers ErrForm. -/
import Derived.Test.YtfhjpgbnojdlkaaZero
namespace Go.Proofs.Ytfhjpgbnojdlkaa
open Go.ChangeShapes Go.WideShapes Go.ChangeAt Go.RowKit
set_option linter.unusedVariables false
set_option linter.unusedSimpArgs false

def tags (ws : List Int) (a : Nat) : List Int := (ws.drop (a + 2)).take (hT (headAt ws a)).toNat
def wordsOk (ws : List Int) (l : List Nat) : Bool := l.all fun a => (tags ws a).all (rightW l)
def shapeOk (ws : List Int) : Bool := match scan ws 1 with | none => false | some l => wordsOk ws l
def sizesOk (ws : List Int) (top : Int) : Bool := decide (2 ≤ ws.length ∧ ws.length ≤ 1048576 ∧ 1 ≤ top ∧ top ≤ ws.length ∧ ws.getD 0 0 = 0)
def memOk (ws : List Int) (top : Int) : Bool := sizesOk ws top && ((ws.drop top.toNat).all (· == 0) && shapeOk (ws.take top.toNat))

def checkE (ws : List Int) (top : Int) : Int := if memOk ws top then 0 else 3
theorem checkE_lo (ws : List Int) (top : Int) : 0 ≤ checkE ws top ∧ checkE ws top ≤ 3 := by unfold checkE; split <;> omega
theorem sizeU64 : ∀ wx, (sizeOf (Try.prog.elem 22)).run Try.prog wx = .ok 1 wx := fun wx => by kernel_rfl
theorem sliceU64 : Try.prog.underlying 22 = some (.slice (Try.prog.elem 22)) := by kernel_rfl
theorem cell_alloc1 {w : World} {a : Addr} {v : Value} {w1 : World} {o : Obj} (hb : Below (w.alloc o).heap.size (w.alloc o) w1) (h : (w.alloc o).cell? a = some v) : w1.cell? a = some v := below_cell hb h

set_option maxRecDepth 100000 in
set_option maxHeartbeats 1000000 in
theorem check_no (v : Value) (ws : List Int) (top : Int) (w : World) (hr : Rd w v ws) (hf : Fit ws) (ht : -9223372036854775808 ≤ top ∧ top ≤ 9223372036854775807) (hno : sizesOk ws top = false) :
    Calls Try.prog 22 #[.agg #[v, .int .i64 top]] w fun e w' => e = .returned (.int .i64 3) ∧ Below w.heap.size w w' := by
  simp only [sizesOk, decide_eq_false_iff_not] at hno
  by_cases h1 : ws.length < 2
  · rcases hr with ⟨p0, rfl, rfl⟩ | ⟨b, off, c, rfl, hl, hc, hcell⟩
    · go_enter Try.func22, Try.ntmps22
      go_wp2_with fail
      go_ret
      exact ⟨rfl, (Below.refl _ _).alloc (Nat.le_refl _) _⟩
    · clear hcell
      go_enter Try.func22, Try.ntmps22
      go_wp2_with fail
      go_ret
      exact ⟨rfl, (Below.refl _ _).alloc (Nat.le_refl _) _⟩
  · obtain ⟨b, off, c, rfl, hl, hc, hcell⟩ := hr.some (by omega)
    have hc0 := fun o => alloc_cell (hcell 0 (by omega)) o
    rw [Nat.add_zero] at hc0
    clear hcell hr
    by_cases h2 : 1048576 < ws.length
    · go_enter Try.func22, Try.ntmps22
      go_wp2_with fail
      go_ret
      exact ⟨rfl, (Below.refl _ _).alloc (Nat.le_refl _) _⟩
    · by_cases h3 : top < 1
      · go_enter Try.func22, Try.ntmps22
        go_wp2_with fail
        go_ret
        exact ⟨rfl, (Below.refl _ _).alloc (Nat.le_refl _) _⟩
      · by_cases h4 : (ws.length : Int) < top
        · go_enter Try.func22, Try.ntmps22
          go_wp2_with fail
          go_ret
          exact ⟨rfl, (Below.refl _ _).alloc (Nat.le_refl _) _⟩
        · have h5 : ws.getD 0 0 ≠ 0 := fun e => hno ⟨by omega, by omega, by omega, by omega, e⟩
          generalize ws.getD 0 0 = x at *
          have h6 : (x != 0) = true := by simpa using h5
          have j0 : 0 < ws.length := by omega
          clear h5 hno
          go_enter Try.func22, Try.ntmps22
          go_wp2_with fail
          go_ret
          exact ⟨rfl, (Below.refl _ _).alloc (Nat.le_refl _) _⟩

end Go.Proofs.Ytfhjpgbnojdlkaa
