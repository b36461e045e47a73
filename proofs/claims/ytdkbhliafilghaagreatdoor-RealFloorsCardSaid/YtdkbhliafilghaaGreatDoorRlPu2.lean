/- Sums and products of floats, plainly. -/
import Derived.Test.YtdkbhliafilghaaGreatDoorRlPu
namespace Go.Proofs.YtdkbhliafilghaaGreatDoor
open Go Ieee
set_option linter.unusedVariables false
set_option linter.unusedSimpArgs false
def fNaN : Nat := 9221120237041090560
def patB (b : Nat) : Nat := if nanB b = true then fNaN else b
def outB (o : Option Nat) : Nat := match o with | some r => patB r | none => fNaN
def flipB (b : Nat) : Nat := if b < fSG then b + fSG else b - fSG
def addB (x y : Nat) : Nat := outB (double.add x y)
def subB (x y : Nat) : Nat := outB (double.sub x y)
def mulB (x y : Nat) : Nat := outB (double.mul x y)
def divB (x y : Nat) : Nat := outB (double.div x y)
def negV (x : Nat) : Nat := patB (flipB x)
theorem flip_lt {b : Nat} (h : b < 18446744073709551616) : flipB b < 18446744073709551616 := by unfold flipB; have : fSG = 9223372036854775808 := rfl; split <;> omega
theorem flip_mod {b : Nat} (h : b < 18446744073709551616) : flipB b % fSG = b % fSG ∧ negB (flipB b) = !negB b := by
  have h1 : fSG = 9223372036854775808 := rfl
  unfold flipB negB
  by_cases h2 : b < fSG
  · rw [if_pos h2]
    have e1 : b / fSG = 0 := by rw [h1] at *; omega
    have e2 : (b + fSG) / fSG = 1 := by rw [h1] at *; omega
    rw [e1, e2]
    refine ⟨by rw [h1] at *; omega, rfl⟩
  · rw [if_neg h2]
    have e1 : b / fSG = 1 := by rw [h1] at *; omega
    have e2 : (b - fSG) / fSG = 0 := by rw [h1] at *; omega
    rw [e1, e2]
    refine ⟨by rw [h1] at *; omega, rfl⟩
theorem flip_flip {b : Nat} (h : b < 18446744073709551616) : flipB (flipB b) = b := by
  have h1 : fSG = 9223372036854775808 := rfl
  unfold flipB
  by_cases h2 : b < fSG
  · rw [if_pos h2, if_neg (by omega)]; omega
  · rw [if_neg h2, if_pos (by omega)]; omega
theorem nan_flip {b : Nat} (h : b < 18446744073709551616) : nanB (flipB b) = nanB b := by unfold nanB; rw [(flip_mod h).1]
theorem read_flip {b : Nat} (h : b < 18446744073709551616) : double.read (flipB b) = (double.read b).opposite := by
  obtain ⟨h1, h2⟩ := flip_mod h
  have e : ∀ x, double.read x = (if x % fSG < 4503599627370496 then Datum.number (negB x) (x % fSG) (-1074) else if x % fSG < fIN then Datum.number (negB x) (4503599627370496 + x % fSG % 4503599627370496) (-1074 + ((x % fSG / 4503599627370496 - 1 : Nat) : Int)) else if x % fSG = fIN then Datum.infinity (negB x) else Datum.nan (negB x) (x % fSG - fIN)) := fun x => rfl
  rw [e, e, h1, h2]
  split
  · rfl
  · split
    · rfl
    · split <;> rfl
theorem sub_add {x y : Nat} (h : y < 18446744073709551616) : double.sub x y = double.add x (flipB y) := by
  unfold Format.sub Format.add
  rw [read_flip h]
theorem sum_comm (a b : Datum) : a.sum b = b.sum a := by
  cases a with
  | nan s t => cases b <;> rfl
  | infinity s =>
    cases b with
    | nan t u => rfl
    | infinity t => cases s <;> cases t <;> rfl
    | number t n j => rfl
  | number s m i =>
    cases b with
    | nan t u => rfl
    | infinity t => rfl
    | number t n j =>
      show some (Datum.number (if signed s m (i - min i j).toNat + signed t n (j - min i j).toNat = 0 then s && t else decide (signed s m (i - min i j).toNat + signed t n (j - min i j).toNat < 0)) (signed s m (i - min i j).toNat + signed t n (j - min i j).toNat).natAbs (min i j)) = some (Datum.number (if signed t n (j - min j i).toNat + signed s m (i - min j i).toNat = 0 then t && s else decide (signed t n (j - min j i).toNat + signed s m (i - min j i).toNat < 0)) (signed t n (j - min j i).toNat + signed s m (i - min j i).toNat).natAbs (min j i))
      rw [Int.min_comm j i, Int.add_comm (signed t n _) (signed s m _), Bool.and_comm t s]
theorem product_comm (a b : Datum) : a.product b = b.product a := by
  cases a with
  | nan s t => cases b <;> rfl
  | infinity s =>
    cases b with
    | nan t u => rfl
    | infinity t => cases s <;> cases t <;> rfl
    | number t n j => cases s <;> cases t <;> rfl
  | number s m i =>
    cases b with
    | nan t u => rfl
    | infinity t => cases s <;> cases t <;> rfl
    | number t n j =>
      show some (Datum.number (s ^^ t) (m * n) (i + j)) = some (Datum.number (t ^^ s) (n * m) (j + i))
      rw [Bool.xor_comm, Nat.mul_comm, Int.add_comm]
theorem add_comm (x y : Nat) : addB x y = addB y x := by unfold addB Format.add; rw [sum_comm]
theorem mul_comm (x y : Nat) : mulB x y = mulB y x := by unfold mulB Format.mul; rw [product_comm]
theorem read_nan {x : Nat} (h : nanB x = true) : ∃ s t, double.read x = .nan s t := by
  rcases read_d x with ⟨_, t, h2⟩ | ⟨h1, _⟩ | ⟨h1, _⟩
  · exact ⟨_, t, h2⟩
  · rw [h] at h1; cases h1
  · rw [h] at h1; cases h1
theorem nan_add {x y : Nat} (h : nanB x = true ∨ nanB y = true) : double.add x y = none := by
  unfold Format.add
  rcases h with h | h
  · obtain ⟨s, t, e⟩ := read_nan h
    rw [e]; rfl
  · obtain ⟨s, t, e⟩ := read_nan h
    rw [e]; cases double.read x <;> rfl
theorem nan_sub {x y : Nat} (h : nanB x = true ∨ nanB y = true) : double.sub x y = none := by
  unfold Format.sub
  rcases h with h | h
  · obtain ⟨s, t, e⟩ := read_nan h
    rw [e]; rfl
  · obtain ⟨s, t, e⟩ := read_nan h
    rw [e]; cases double.read x <;> rfl
theorem nan_mul {x y : Nat} (h : nanB x = true ∨ nanB y = true) : double.mul x y = none := by
  unfold Format.mul
  rcases h with h | h
  · obtain ⟨s, t, e⟩ := read_nan h
    rw [e]; rfl
  · obtain ⟨s, t, e⟩ := read_nan h
    rw [e]; cases double.read x <;> rfl
theorem nan_div {x y : Nat} (h : nanB x = true ∨ nanB y = true) : double.div x y = none := by
  unfold Format.div
  rcases h with h | h
  · obtain ⟨s, t, e⟩ := read_nan h
    rw [e]; rfl
  · obtain ⟨s, t, e⟩ := read_nan h
    rw [e]; cases double.read x <;> rfl
theorem signed_opp (s : Bool) (m k : Nat) : signed s m k + signed (!s) m k = 0 := by unfold signed; cases s <;> simp <;> omega
/-- A number less itself. -/
theorem sub_self {x : Nat} (h : nanB x = false) : subB x x = if x % fSG = fIN then fNaN else 0 := by
  unfold subB Format.sub
  rcases read_d x with ⟨h1, _⟩ | ⟨_, h1, h2⟩ | ⟨_, h1, m, e, h2, h3⟩
  · rw [h] at h1; cases h1
  · rw [h2, if_pos h1]
    cases negB x <;> rfl
  · rw [h2, if_neg (by omega)]
    show outB (((Datum.number (negB x) m ((e : Int) - 1074)).sum (Datum.number (!negB x) m ((e : Int) - 1074))).map double.write) = 0
    show outB (some (double.write (Datum.number (if signed (negB x) m (((e : Int) - 1074) - min ((e : Int) - 1074) ((e : Int) - 1074)).toNat + signed (!negB x) m (((e : Int) - 1074) - min ((e : Int) - 1074) ((e : Int) - 1074)).toNat = 0 then negB x && !negB x else _) (signed (negB x) m (((e : Int) - 1074) - min ((e : Int) - 1074) ((e : Int) - 1074)).toNat + signed (!negB x) m (((e : Int) - 1074) - min ((e : Int) - 1074) ((e : Int) - 1074)).toNat).natAbs _))) = 0
    rw [signed_opp, if_pos rfl]
    cases negB x <;> rfl
/-- -x behind -x. -/
theorem neg_neg {x : Nat} (h : nanB x = false) (hx : x < 18446744073709551616) : negV (negV x) = x := by
  have h1 := nan_flip hx
  unfold negV
  have e1 : patB (flipB x) = flipB x := by unfold patB; rw [h1, h, if_neg (by simp)]
  rw [e1, flip_flip hx]
  unfold patB; rw [h, if_neg (by simp)]
/-- The order, as -1, 0, 1. -/
def cmpZ (x y : Nat) : Int := if placeZ x < placeZ y then -1 else if placeZ y < placeZ x then 1 else 0
theorem cmpZ_anti (x y : Nat) : cmpZ x y = -cmpZ y x := by
  unfold cmpZ
  by_cases h1 : placeZ x < placeZ y
  · rw [if_pos h1, if_neg (by omega), if_pos h1]
  · rw [if_neg h1]
    by_cases h2 : placeZ y < placeZ x
    · rw [if_pos h2, if_pos h2]; rfl
    · rw [if_neg h2, if_neg h2, if_neg h1]; rfl
theorem cmpZ_self (x : Nat) : cmpZ x x = 0 := by unfold cmpZ; simp
theorem place_eq {x y : Nat} (hx : x < 18446744073709551616) (hy : y < 18446744073709551616) : placeZ x = placeZ y ↔ (x = y ∨ (x % fSG = 0 ∧ y % fSG = 0)) := by
  have h1 : fSG = 9223372036854775808 := rfl
  unfold placeZ negB
  have hq : ∀ z : Nat, z < 18446744073709551616 → (z / fSG % 2 == 1) = decide (fSG ≤ z) := fun z hz => by
    rw [Bool.eq_iff_iff, beq_iff_eq, decide_eq_true_eq, h1]; omega
  rw [hq x hx, hq y hy, h1]
  by_cases c1 : 9223372036854775808 ≤ x <;> by_cases c2 : 9223372036854775808 ≤ y <;> simp only [c1, c2, decide_true, decide_false, if_true, if_false, Bool.false_eq_true] <;> omega
theorem cmpZ_zero {x y : Nat} (hx : x < 18446744073709551616) (hy : y < 18446744073709551616) : cmpZ x y = 0 ↔ (x = y ∨ (x % fSG = 0 ∧ y % fSG = 0)) := by
  rw [← place_eq hx hy]
  unfold cmpZ
  by_cases h1 : placeZ x < placeZ y
  · rw [if_pos h1]; omega
  · rw [if_neg h1]
    by_cases h2 : placeZ y < placeZ x
    · rw [if_pos h2]; omega
    · rw [if_neg h2]; omega
/-- The three comparisons. -/
theorem lt_d {x y : Nat} (hx : nanB x = false) (hy : nanB y = false) : (double.order x y == some .lt) = decide (placeZ x < placeZ y) := by
  rw [order_d hx hy]
  simp only [compare, compareOfLessAndEq]
  by_cases h1 : placeZ x < placeZ y
  · rw [if_pos h1]; simp [h1]
  · rw [if_neg h1]
    by_cases h2 : placeZ x = placeZ y
    · rw [if_pos h2]; simp [h1]
    · rw [if_neg h2]; simp [h1]
theorem gt_d {x y : Nat} (hx : nanB x = false) (hy : nanB y = false) : (double.order x y == some .gt) = decide (placeZ y < placeZ x) := by
  rw [order_d hx hy]
  simp only [compare, compareOfLessAndEq]
  by_cases h1 : placeZ x < placeZ y
  · rw [if_pos h1]; simp; omega
  · rw [if_neg h1]
    by_cases h2 : placeZ x = placeZ y
    · rw [if_pos h2]; simp; omega
    · rw [if_neg h2]; simp; omega
theorem eq_d {x y : Nat} (hx : nanB x = false) (hy : nanB y = false) : (double.order x y == some .eq) = decide (placeZ x = placeZ y) := by
  rw [order_d hx hy]
  simp only [compare, compareOfLessAndEq]
  by_cases h1 : placeZ x < placeZ y
  · rw [if_pos h1]; simp; omega
  · rw [if_neg h1]
    by_cases h2 : placeZ x = placeZ y
    · rw [if_pos h2]; simp [h2]
    · rw [if_neg h2]; simp [h2]
theorem cmp_nan {x y : Nat} (h : nanB x = true ∨ nanB y = true) (o : Ordering) : (double.order x y == some o) = false := by
  rw [order_nan h]; rfl
/-- Is it 0 or -0? -/
theorem zero_d (x : Nat) : (double.order x 0 == some .eq) = decide (x % fSG = 0) := by
  have hz : nanB 0 = false := rfl
  cases h : nanB x
  · rw [eq_d h hz, Bool.eq_iff_iff, decide_eq_true_eq, decide_eq_true_eq]
    have : placeZ 0 = 0 := rfl
    rw [this]
    unfold placeZ
    split <;> omega
  · rw [cmp_nan (.inl h)]
    unfold nanB at h
    have h1 : fIN = 9218868437227405312 := rfl
    symm; rw [decide_eq_false_iff_not]
    have := of_decide_eq_true h
    omega
end Go.Proofs.YtdkbhliafilghaaGreatDoor
