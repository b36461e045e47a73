/- Reading a slice of uint64 words: 'Rd w v ws': the slice value v reads as the list ws in the world w; laws that carry it on. Nothing of the program is imported. -/
import Derived.WalkKit
import Derived.Below
import Derived.Deep.OwnRows
import Derived.Laws.BitsLemmas
import Derived.Laws.Slices
import Derived.Test.YtpebnofjcodikaaGreatDoorPWordPure
namespace Go.Proofs.YtpebnofjcodikaaGreatDoor
open Go.RowKit
set_option linter.unusedSimpArgs false
set_option linter.unusedVariables false

def Rd (w : World) (v : Value) (ws : List Int) : Prop :=
  (∃ p : Option Addr, v = .slice p 0 0 ∧ ws = []) ∨ ∃ b off c, v = .slice (some ⟨b, off, none⟩) ws.length c ∧ ws.length ≤ c ∧ ws.length ≤ 17592186043904 ∧
    ∀ i, i < ws.length → w.cell? ⟨b, off + i, none⟩ = some (.int .u64 (ws.getD i 0))

/-- All words fit. -/
def Fit (ws : List Int) : Prop := ∀ i, 0 ≤ ws.getD i 0 ∧ ws.getD i 0 ≤ 18446744073709551615

theorem Fit.at {ws : List Int} (h : Fit ws) (i : Nat) : 0 ≤ ws.getD i 0 ∧ ws.getD i 0 ≤ 18446744073709551615 := h i
theorem getD_take (ws : List Int) (k i : Nat) : (ws.take k).getD i 0 = if i < k then ws.getD i 0 else 0 := by
  simp only [List.getD_eq_getElem?_getD, List.getElem?_take]; split <;> simp
theorem getD_drop (ws : List Int) (k i : Nat) : (ws.drop k).getD i 0 = ws.getD (k + i) 0 := by
  simp only [List.getD_eq_getElem?_getD, List.getElem?_drop]
theorem Fit.take {ws : List Int} (h : Fit ws) (k : Nat) : Fit (ws.take k) := by
  intro i; rw [getD_take]; split
  · exact h i
  · omega
theorem Fit.drop {ws : List Int} (h : Fit ws) (k : Nat) : Fit (ws.drop k) := by
  intro i; rw [getD_drop]; exact h _

theorem below_cell {W w1 : World} (hb : Below W.heap.size W w1) {a : Addr} {v : Value} (h : W.cell? a = some v) : w1.cell? a = some v := by
  rw [hb.cell (World.block_lt_of_cell? W a h)]; exact h

theorem alloc_cell {W : World} {a : Addr} {v : Value} (h : W.cell? a = some v) (o : Obj) : (W.alloc o).cell? a = some v := below_cell ((Below.refl _ _).alloc (Nat.le_refl _) o) h
theorem Rd.keep {w w' : World} {v : Value} {ws : List Int} (h : Rd w v ws) (hb : Below w.heap.size w w') : Rd w' v ws := by
  rcases h with h | ⟨b, off, c, rfl, h1, h2, h3⟩
  · exact .inl h
  · exact .inr ⟨b, off, c, rfl, h1, h2, fun i hi => below_cell hb (h3 i hi)⟩
theorem Rd.alloc {w : World} {v : Value} {ws : List Int} (h : Rd w v ws) (o : Obj) : Rd (w.alloc o) v ws :=
  h.keep ((Below.refl _ _).alloc (Nat.le_refl _) _)
theorem Rd.take {w : World} {p : Option Addr} {n c : Nat} {ws : List Int} (h : Rd w (.slice p n c) ws) (k : Nat) (hk : k ≤ n) : Rd w (.slice p k c) (ws.take k) := by
  rcases h with ⟨p0, h, rfl⟩ | ⟨b, off, c', h0, h1, h2, h3⟩
  · simp only [Value.slice.injEq] at h
    obtain ⟨rfl, rfl, rfl⟩ := h
    obtain rfl : k = 0 := by omega
    exact .inl ⟨p, rfl, rfl⟩
  · simp only [Value.slice.injEq] at h0
    obtain ⟨rfl, rfl, rfl⟩ := h0
    refine .inr ⟨b, off, c, by rw [List.length_take, Nat.min_eq_left hk], by rw [List.length_take]; omega, by rw [List.length_take]; omega, fun i hi => ?_⟩
    rw [List.length_take] at hi
    rw [getD_take, if_pos (by omega)]
    exact h3 i (by omega)

/-! ### Cutting a slice whose elements are one cell each, without parting on whether nothing is left of its capacity -/
section
variable {P : Program} (t : TypeId) (ht : P.underlying t = some (.slice (P.elem t))) (hsz : ∀ wx, (sizeOf (P.elem t)).run P wx = .ok 1 wx)
include ht hsz
theorem sl_mid (b off n c lo m : Nat) (hc : lo + m ≤ c) : ∃ o', (lo < c → o' = off + lo) ∧
    ∀ wx, (Instr.slice t (.slice (some ⟨b, off, none⟩) n c) (some (.int .i64 (lo : Int))) (some (.int .i64 ((lo : Int) + (m : Int)))) none).run P wx = .ok (.slice (some ⟨b, o', none⟩) m (c - lo)) wx := by
  refine ⟨if c = lo then off else off + lo, fun h => if_neg (by omega), fun wx => ?_⟩
  rw [run_slice_lh wx t _ n c ht .i64 .i64 lo ((lo : Int) + (m : Int)) (by omega) (by omega) (by omega), hsz]
  rw [show ((lo : Int) + (m : Int)).toNat = lo + m by omega]
  simp only [Result.andThen, sliced, Int.toNat_natCast, Nat.mul_one, Nat.add_sub_cancel_left]
  by_cases e : c = lo
  · rw [if_pos e, if_pos e]
  · rw [if_neg e, if_neg e]
    by_cases z : lo = 0
    · subst z; rfl
    · simp [Addr.add, if_neg z]
end
theorem Rd.cut {w : World} {b off n c : Nat} {ws : List Int} (h : Rd w (.slice (some ⟨b, off, none⟩) n c) ws) (lo m o' : Nat) (hm : lo + m ≤ n) (ho : lo < c → o' = off + lo) :
    Rd w (.slice (some ⟨b, o', none⟩) m (c - lo)) ((ws.drop lo).take m) := by
  rcases h with ⟨p0, h, rfl⟩ | ⟨b', off', c', h0, h1, h2, h3⟩
  · simp only [Value.slice.injEq] at h
    obtain ⟨_, rfl, rfl⟩ := h
    obtain rfl : m = 0 := by omega
    obtain rfl : lo = 0 := by omega
    exact .inl ⟨_, rfl, by simp⟩
  · simp only [Value.slice.injEq, Option.some.injEq, Addr.mk.injEq, and_true] at h0
    obtain ⟨⟨rfl, rfl⟩, rfl, rfl⟩ := h0
    have hl : ((ws.drop lo).take m).length = m := by rw [List.length_take, List.length_drop]; omega
    refine .inr ⟨b, o', c - lo, by rw [hl], by omega, by rw [hl]; omega, fun i hi => ?_⟩
    rw [hl] at hi
    rw [getD_take, if_pos hi, getD_drop, ho (by omega), Nat.add_assoc]
    exact h3 (lo + i) (by omega)
theorem Rd.some {w : World} {v : Value} {ws : List Int} (h : Rd w v ws) (hl : 0 < ws.length) : ∃ b off c, v = .slice (some ⟨b, off, none⟩) ws.length c ∧ ws.length ≤ c ∧ ws.length ≤ 17592186043904 ∧
    ∀ i, i < ws.length → w.cell? ⟨b, off + i, none⟩ = some (.int .u64 (ws.getD i 0)) := by
  rcases h with ⟨_, _, rfl⟩ | h
  · simp at hl
  · exact h

/-! ### The heads of objects -/
def hK (h : Int) : Int := h % 256
def hT (h : Int) : Int := h / 256 % 16777216
def hS (h : Int) : Int := h / 4294967296 % 16777216
def headAt (ws : List Int) (a : Int) : Int := if 1 ≤ a ∧ a < (ws.length : Int) - 1 then ws.getD a.toNat 0 else 0
def there (ws : List Int) (a : Int) : Bool := decide (1 ≤ a ∧ a < (ws.length : Int) - 1 ∧ 0 < hK (headAt ws a) ∧ 2 + hT (headAt ws a) ≤ hS (headAt ws a) ∧ hS (headAt ws a) ≤ (ws.length : Int) - a)
end Go.Proofs.YtpebnofjcodikaaGreatDoor
