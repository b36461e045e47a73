/- The objects of a memory, as plain lists: 'scan ws k' are the addresses of the objects from k on, if they lie without a gap and in form. -/
import Derived.Test.YtilonacjmihglaaPRd
namespace Go.Proofs.Ytilonacjmihglaa
open Go.RowKit
set_option linter.unusedSimpArgs false
set_option linter.unusedVariables false

def okAt (ws : List Int) (k : Nat) : Bool := there ws k && (decide (headAt ws k < 72057594037927936) && decide (ws.getD (k + 1) 0 = 0))
def sz (ws : List Int) (k : Nat) : Nat := (hS (headAt ws k)).toNat
def scanF (ws : List Int) : Nat → Nat → Option (List Nat)
  | 0, k => if k < ws.length then none else some []
  | f + 1, k => if k < ws.length then (if okAt ws k then (scanF ws f (k + sz ws k)).map (k :: ·) else none) else some []
def scan (ws : List Int) (k : Nat) : Option (List Nat) := scanF ws ws.length k

theorem okAt_sz {ws : List Int} {k : Nat} (h : okAt ws k = true) : 1 ≤ k ∧ 2 ≤ sz ws k ∧ k + sz ws k ≤ ws.length ∧ (sz ws k : Int) = hS (headAt ws k) ∧ (2 : Int) + hT (headAt ws k) ≤ hS (headAt ws k) := by
  simp only [okAt, there, Bool.and_eq_true, decide_eq_true_eq] at h
  have h2 := hT_lo (headAt ws k)
  have h3 := hS_lo (headAt ws k)
  unfold sz
  refine ⟨?_, ?_, ?_, ?_, ?_⟩ <;> omega
theorem scanF_enough (ws : List Int) : ∀ (f g k : Nat), ws.length ≤ f + k → ws.length ≤ g + k → scanF ws f k = scanF ws g k := by
  intro f
  induction f with
  | zero =>
    intro g k h1 h2
    have hk : ¬ k < ws.length := by omega
    cases g with
    | zero => rfl
    | succ g => simp only [scanF, if_neg hk]
  | succ f ih =>
    intro g k h1 h2
    by_cases hk : k < ws.length
    · cases g with
      | zero => omega
      | succ g =>
        simp only [scanF, if_pos hk]
        by_cases ho : okAt ws k = true
        · have h := okAt_sz ho
          rw [if_pos ho, if_pos ho, ih g (k + sz ws k) (by omega) (by omega)]
        · rw [if_neg ho, if_neg ho]
    · cases g with
      | zero => simp only [scanF, if_neg hk]
      | succ g => simp only [scanF, if_neg hk]
theorem scan_end {ws : List Int} {k : Nat} (h : ws.length ≤ k) : scan ws k = some [] := by
  unfold scan
  cases hl : ws.length with
  | zero => simp only [scanF]; rw [if_neg (by omega)]
  | succ n => simp only [scanF]; rw [if_neg (by omega)]
theorem scan_ok {ws : List Int} {k : Nat} (hk : k < ws.length) (h : okAt ws k = true) : scan ws k = (scan ws (k + sz ws k)).map (k :: ·) := by
  unfold scan
  have e : scanF ws ws.length k = scanF ws (ws.length + 1) k := scanF_enough ws _ _ k (by omega) (by omega)
  rw [e]
  simp only [scanF, if_pos hk, if_pos h]
theorem scan_bad {ws : List Int} {k : Nat} (hk : k < ws.length) (h : okAt ws k = false) : scan ws k = none := by
  unfold scan
  cases hl : ws.length with
  | zero => omega
  | succ n => simp only [scanF]; rw [if_pos (by omega), h]; rfl
/-- What is told of a row of steps: 'done' are the addresses from 1 up to k. -/
def Upto (ws : List Int) (k : Nat) (done : List Nat) : Prop := scan ws 1 = (scan ws k).map (done ++ ·) ∧ 1 ≤ k
theorem Upto.start (ws : List Int) : Upto ws 1 [] := ⟨by simp, Nat.le_refl _⟩
theorem Upto.step {ws : List Int} {k : Nat} {done : List Nat} (h : Upto ws k done) (hk : k < ws.length) (ho : okAt ws k = true) : Upto ws (k + sz ws k) (done ++ [k]) := by
  refine ⟨?_, by have := h.2; omega⟩
  rw [h.1, scan_ok hk ho, Option.map_map]
  congr 1
  funext l
  simp
theorem Upto.bad {ws : List Int} {k : Nat} {done : List Nat} (h : Upto ws k done) (hk : k < ws.length) (ho : okAt ws k = false) : scan ws 1 = none := by
  rw [h.1, scan_bad hk ho]; rfl
theorem Upto.full {ws : List Int} {k : Nat} {done : List Nat} (h : Upto ws k done) (hk : ws.length ≤ k) : scan ws 1 = some done := by
  rw [h.1, scan_end hk]; simp

theorem scanF_lt (ws : List Int) : ∀ (f k : Nat) (l : List Nat), scanF ws f k = some l → ∀ x ∈ l, k ≤ x ∧ x < ws.length := by
  intro f
  induction f with
  | zero =>
    intro k l h x hx
    simp only [scanF] at h
    split at h
    · cases h
    · simp only [Option.some.injEq] at h; subst h; simp at hx
  | succ f ih =>
    intro k l h x hx
    simp only [scanF] at h
    split at h
    · rename_i hk
      split at h
      · rw [Option.map_eq_some_iff] at h
        obtain ⟨r, hr, rfl⟩ := h
        rcases List.mem_cons.1 hx with rfl | hx
        · exact ⟨Nat.le_refl _, hk⟩
        · have := ih _ _ hr x hx; omega
      · cases h
    · simp only [Option.some.injEq] at h; subst h; simp at hx
theorem scan_lt {ws : List Int} {k : Nat} {l : List Nat} (h : scan ws k = some l) : ∀ x ∈ l, x < ws.length := fun x hx => (scanF_lt ws _ _ _ h x hx).2
theorem scan_ge {ws : List Int} {k : Nat} {l : List Nat} (h : scan ws k = some l) : ∀ x ∈ l, k ≤ x := fun x hx => (scanF_lt ws _ _ _ h x hx).1

theorem scanF_mem_ok (ws : List Int) : ∀ (f k : Nat) (l : List Nat), scanF ws f k = some l → ∀ x ∈ l, okAt ws x = true := by
  intro f
  induction f with
  | zero =>
    intro k l h x hx
    simp only [scanF] at h
    split at h
    · cases h
    · simp only [Option.some.injEq] at h; subst h; simp at hx
  | succ f ih =>
    intro k l h x hx
    simp only [scanF] at h
    split at h
    · split at h
      · rename_i ho
        rw [Option.map_eq_some_iff] at h
        obtain ⟨r, hr, rfl⟩ := h
        rcases List.mem_cons.1 hx with rfl | hx
        · exact ho
        · exact ih _ _ hr x hx
      · cases h
    · simp only [Option.some.injEq] at h; subst h; simp at hx
theorem scan_mem_ok {ws : List Int} {k : Nat} {l : List Nat} (h : scan ws k = some l) : ∀ x ∈ l, okAt ws x = true := fun x hx => scanF_mem_ok ws _ _ _ h x hx

/-! ### Bits: a bit for each address -/
def bitAt (s : Nat → Nat) (x : Nat) : Bool := (s (x / 64)).testBit (x % 64)
def setBit (s : Nat → Nat) (x : Nat) : Nat → Nat := fun i => if i = x / 64 then s i ||| 2 ^ (x % 64) else s i
theorem bitAt_setBit (s : Nat → Nat) (x y : Nat) : bitAt (setBit s x) y = (bitAt s y || decide (y = x)) := by
  unfold bitAt setBit
  by_cases h : y / 64 = x / 64
  · rw [if_pos h, Nat.testBit_or, Nat.testBit_two_pow]
    congr 1
    rw [decide_eq_decide]
    omega
  · rw [if_neg h]
    have : decide (y = x) = false := by rw [decide_eq_false_iff_not]; intro e; exact h (by rw [e])
    rw [this, Bool.or_false]
theorem setBit_lt {s : Nat → Nat} (h : ∀ i, s i < 18446744073709551616) (x i : Nat) : setBit s x i < 18446744073709551616 := by
  unfold setBit; split
  · exact Nat.or_lt_two_pow (n := 64) (h i) (Nat.lt_of_lt_of_le (Nat.pow_lt_pow_right (by decide) (Nat.mod_lt x (by decide : 0 < 64))) (Nat.le_refl _))
  · exact h i
end Go.Proofs.Ytilonacjmihglaa
