/- Reading a slice of uint64 words: 'Rd w v ws': the slice value v reads as the list ws in the world w; ... -/
import Derived.WalkKit
import Derived.Below
import Derived.Deep.OwnRows
import Derived.Laws.BitsLemmas
import Derived.Laws.Slices
import Derived.Test.YtlhfemgimieooaaGreatDoorPWordPure
set_option linter.unusedVariables false
set_option linter.unusedSimpArgs false
namespace Go.Proofs.YtlhfemgimieooaaGreatDoor
open Go.RowKit
def Rd (w : World) (v : Value) (ws : List Int) : Prop :=
 (∃ p : Option Addr, v = .slice p 0 0 ∧ ws = []) ∨ ∃ b off c, v = .slice (some ⟨b, off, none⟩) ws.length c ∧ ws.length ≤ c ∧ ws.length ≤ 17592186043904 ∧
   ∀ i, i < ws.length → w.cell? ⟨b, off + i, none⟩ = some (.int .u64 (ws.getD i 0))
def Fit (ws : List Int) : Prop := ∀ i, 0 ≤ ws.getD i 0 ∧ ws.getD i 0 ≤ 18446744073709551615
theorem getD_take (ws : List Int) (k i : Nat) : (ws.take k).getD i 0 = if i < k then ws.getD i 0 else 0 := by
 simp only [List.getD_eq_getElem?_getD, List.getElem?_take]; split <;> simp
theorem bcl {W w1 : World} (hb : Below W.heap.size W w1) {a : Addr} {v : Value} (h : W.cell? a = some v) : w1.cell? a = some v := by
 rw [hb.cell (World.block_lt_of_cell? W a h)]; exact h
theorem acl {W : World} {a : Addr} {v : Value} (h : W.cell? a = some v) (o : Obj) : (W.alloc o).cell? a = some v := bcl ((Below.refl _ _).alloc (Nat.le_refl _) o) h
theorem Rd.keep {w w' : World} {v : Value} {ws : List Int} (h : Rd w v ws) (hb : Below w.heap.size w w') : Rd w' v ws := by
 rcases h with h | ⟨b, off, c, rfl, h1, h2, h3⟩
 · exact .inl h
 · exact .inr ⟨b, off, c, rfl, h1, h2, fun i hi => bcl hb (h3 i hi)⟩
theorem Rd.alloc {w : World} {v : Value} {ws : List Int} (h : Rd w v ws) (o : Obj) : Rd (w.alloc o) v ws :=
 h.keep ((Below.refl _ _).alloc (Nat.le_refl _) _)
section
variable {P : Program} (t : TypeId) (ht : P.underlying t = some (.slice (P.elem t))) (hsz : ∀ wx, (sizeOf (P.elem t)).run P wx = .ok 1 wx)
include ht hsz
end
def hK (h : Int) : Int := h % 256
def hT (h : Int) : Int := h / 256 % 16777216
def hS (h : Int) : Int := h / 4294967296 % 16777216
def headAt (ws : List Int) (a : Int) : Int := if 1 ≤ a ∧ a < (ws.length : Int) - 1 then ws.getD a.toNat 0 else 0
def there (ws : List Int) (a : Int) : Bool := decide (1 ≤ a ∧ a < (ws.length : Int) - 1 ∧ 0 < hK (headAt ws a) ∧ 2 + hT (headAt ws a) ≤ hS (headAt ws a) ∧ hS (headAt ws a) ≤ (ws.length : Int) - a)
end Go.Proofs.YtlhfemgimieooaaGreatDoor
