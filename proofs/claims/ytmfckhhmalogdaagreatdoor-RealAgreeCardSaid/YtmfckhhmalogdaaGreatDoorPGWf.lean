/- Layer 2, the document's answer: screeref02.Of: the digits of a number in form. Layer 2, the document's answer: screeref02.To: the number of a row of decimal digits. Layer 2, the document's answer: Turn, Plus, Cmp, Fits. Layer 2, the document's answer: Plus. -/
import Derived.Test.YtmfckhhmalogdaaGreatDoorPGWc
import Derived.Deep.RegionHeld3
namespace Go.Proofs.YtmfckhhmalogdaaGreatDoor
section
open Go.ChangeShapes Go.WideShapes Go.ChangeAt Go.RowKit
set_option linter.unusedVariables false
set_option linter.unusedSimpArgs false
theorem Sgn.rebase {b b' : Int} (hb : 0 < b) (hb' : 0 < b') {neg : Bool} {ws ds : List Int} {z : Int} (h : Sgn b neg ws z) (hc : Canon b' ds) (hv : val b' ds = val b ws) : Sgn b' neg ds z := by
  refine ⟨hc, fun e => ?_, by rw [hv]; exact h.eq⟩
  have h1 := h.canon.pos hb (h.sign e)
  rw [← hv] at h1
  cases ds with
  | nil => simp [val] at h1
  | cons d r => simp
/-- A number of the document's. -/
def NumPost (W : World) (z : Int) (e : Ending) (w' : World) : Prop :=
  ∃ neg u ds, e = .returned (.agg #[.bool neg, u]) ∧ Rb w' u ds ∧ Sgn 10 neg ds z ∧ Below W.heap.size W w'
structure OfIn (xs os : List Int) (m k : Nat) (l : Int) : Prop where
  len : os.length = 18 * m + k
  dig : Dig 10 os
  sum : val 10 os + 10 ^ (18 * m + k) * l = val B18 (xs.take (m + 1))
  lo : 0 ≤ l
  hi : l * 10 ^ k < B18
structure OfOut (xs os : List Int) (m : Nat) : Prop where
  len : os.length = 18 * m
  dig : Dig 10 os
  sum : val 10 os = val B18 (xs.take m)
theorem pow18 (m : Nat) : (10 : Int) ^ (18 * m) = B18 ^ m := by
  have e : B18 = 10 ^ 18 := by decide
  rw [e, ← Int.pow_mul]
theorem OfOut.enter {xs os : List Int} {m : Nat} (h : OfOut xs os m) (hx : Dig B18 xs) : OfIn xs os m 0 (xs.getD m 0) :=
  ⟨h.len, h.dig, by rw [Nat.add_zero, pow18, val_take', h.sum], (hx m).1, by simpa using (hx m).2⟩
theorem OfIn.lt {xs os : List Int} {m k : Nat} {l : Int} (h : OfIn xs os m k l) : l < 1000000000000000000 := by
  have h1 := h.hi
  have h2 := pow_pos' (by decide : (0 : Int) < 10) k
  have h3 : l * 1 ≤ l * 10 ^ k := Int.mul_le_mul_of_nonneg_left (by omega) h.lo
  rw [B18] at h1
  omega
theorem OfIn.step {xs os : List Int} {m k : Nat} {l : Int} (h : OfIn xs os m k l) : OfIn xs (os ++ [l % 10]) m (k + 1) (l / 10) := by
  have h0 := h.lo
  refine ⟨by rw [List.length_append, h.len]; simp; omega, h.dig.append (Dig.cons (by omega) (Dig.nil (by decide))), ?_, by omega, ?_⟩
  · rw [val_snoc, h.len, ← Nat.add_assoc, Int.pow_succ]
    have h1 := h.sum
    have h2 : l = l % 10 + 10 * (l / 10) := by omega
    have h3 : (10 : Int) ^ (18 * m + k) * l = 10 ^ (18 * m + k) * (l % 10 + 10 * (l / 10)) := by rw [← h2]
    grind
  · have h1 := h.hi
    have h2 := pow_pos' (by decide : (0 : Int) < 10) k
    rw [Int.pow_succ]
    have h3 : 10 * (l / 10) * 10 ^ k ≤ l * 10 ^ k := Int.mul_le_mul_of_nonneg_right (by omega) (by omega)
    have h4 : l / 10 * (10 ^ k * 10) = 10 * (l / 10) * 10 ^ k := by grind
    omega
theorem OfIn.leave {xs os : List Int} {m : Nat} {l : Int} (h : OfIn xs os m 18 l) : OfOut xs os (m + 1) := by
  have h1 := h.hi
  have h0 := h.lo
  have e : l = 0 := by
    have : (10 : Int) ^ 18 = 1000000000000000000 := by decide
    rw [this, B18] at h1
    omega
  subst e
  exact ⟨by rw [h.len]; omega, h.dig, by have := h.sum; simpa using this⟩
theorem OfOut.nil (xs : List Int) : OfOut xs [] 0 := ⟨rfl, Dig.nil (by decide), by simp [val]⟩
end
section
open Go.ChangeShapes Go.WideShapes Go.ChangeAt Go.RowKit
set_option linter.unusedVariables false
set_option linter.unusedSimpArgs false
/-- A piece of a row of digits. -/
def part (ds : List Int) (a j : Nat) : Int := val 10 ((ds.drop a).take j)
theorem part_zero (ds : List Int) (a : Nat) : part ds a 0 = 0 := by simp [part, val]
theorem part_step (ds : List Int) (a j : Nat) : part ds a (j + 1) = 10 * part ds (a + 1) j + ds.getD a 0 := by
  unfold part
  by_cases h : a < ds.length
  · rw [List.drop_eq_getElem_cons h, List.take_succ_cons]
    simp [val, List.getD_eq_getElem?_getD, h]; omega
  · rw [List.drop_eq_nil_of_le (by omega), List.drop_eq_nil_of_le (by omega), getD_len (by omega)]
    simp [val]
theorem part_lt {ds : List Int} (h : Dig 10 ds) (a j : Nat) : 0 ≤ part ds a j ∧ part ds a j < 10 ^ j := by
  have hd : Dig 10 ((ds.drop a).take j) := Dig.take (fun i => by rw [getD_dropD]; exact h _) (by decide) j
  refine ⟨val_nonneg (by decide) hd, Int.lt_of_lt_of_le (val_lt (by decide) hd) (pow_mono' (by decide) ?_)⟩
  rw [List.length_take]; exact Nat.min_le_left _ _
theorem part_low {ds : List Int} (h : Dig 10 ds) (a j : Nat) (hj : j < 18) : part ds a j < 100000000000000000 := by
  have h1 := (part_lt h a j).2
  have h2 := pow_mono' (by decide : (1 : Int) ≤ 10) (show j ≤ 17 by omega)
  have h3 : (10 : Int) ^ 17 = 100000000000000000 := by decide
  omega
theorem part_full {ds : List Int} (h : Dig 10 ds) (a : Nat) : part ds a 18 < 1000000000000000000 := by
  have h1 := (part_lt h a 18).2
  have h3 : (10 : Int) ^ 18 = 1000000000000000000 := by decide
  omega
theorem part_rest (ds : List Int) (a : Nat) : val 10 (ds.drop a) = part ds a 18 + B18 * val 10 (ds.drop (a + 18)) := by
  unfold part
  have e := List.take_append_drop 18 (ds.drop a)
  have h := val_append 10 ((ds.drop a).take 18) ((ds.drop a).drop 18)
  rw [e, List.drop_drop] at h
  rw [h, List.length_take]
  by_cases hl : 18 ≤ (ds.drop a).length
  · rw [Nat.min_eq_left hl]; rfl
  · have : ds.drop (a + 18) = [] := List.drop_eq_nil_of_le (by rw [List.length_drop] at hl; omega)
    rw [this]; simp [val]
structure ToState (ds os : List Int) (m : Nat) : Prop where
  len : os.length = m
  dig : Dig B18 os
  sum : val B18 os + B18 ^ m * val 10 (ds.drop (18 * m)) = val 10 ds
  last : 0 < m → ds.length ≤ 18 * m → os.getD (m - 1) 0 ≠ 0
theorem ToState.nil (ds : List Int) : ToState ds [] 0 := ⟨rfl, Dig.nil (by decide), by simp [val], fun h => absurd h (by omega)⟩
theorem ToState.step {ds os : List Int} {m : Nat} (h : ToState ds os m) (hc : Canon 10 ds) (hlt : 18 * m < ds.length) : ToState ds (os ++ [part ds (18 * m) 18]) (m + 1) := by
  have hp := part_lt hc.1 (18 * m) 18
  have hpf := part_full hc.1 (18 * m)
  refine ⟨by simp [h.len], h.dig.append (Dig.cons ⟨hp.1, by rw [B18]; exact hpf⟩ (Dig.nil (by decide))), ?_, fun _ hle => ?_⟩
  · rw [val_snoc, h.len, Int.pow_succ, show 18 * (m + 1) = 18 * m + 18 by omega]
    have h1 := h.sum
    rw [part_rest ds (18 * m)] at h1
    grind
  · rw [show m + 1 - 1 = m by omega, List.getD_eq_getElem?_getD, List.getElem?_append_right (by rw [h.len]; exact Nat.le_refl _), h.len]
    simp only [Nat.sub_self, List.getElem?_cons_zero, Option.getD_some]
    have hr := part_rest ds (18 * m)
    have hn : ds.drop (18 * m + 18) = [] := List.drop_eq_nil_of_le (by omega)
    rw [hn] at hr
    simp [val] at hr
    have hcd : Canon 10 (ds.drop (18 * m)) := ⟨fun i => by rw [getD_dropD]; exact hc.1 _, fun hl => by
      rw [getD_dropD, List.length_drop]
      have := hc.2 (by omega)
      rw [show 18 * m + (ds.length - 18 * m - 1) = ds.length - 1 by omega]
      exact this⟩
    have := hcd.pos (by decide) (by rw [List.length_drop]; omega)
    omega
theorem ToState.finish {ds os : List Int} {m : Nat} (h : ToState ds os m) (hle : ds.length ≤ 18 * m) : Canon B18 os ∧ val B18 os = val 10 ds := by
  refine ⟨⟨h.dig, fun hl => ?_⟩, ?_⟩
  · rw [h.len] at hl ⊢
    exact h.last hl hle
  · have := h.sum
    rw [List.drop_eq_nil_of_le hle] at this
    simpa [val] using this
structure TB (w wr : World) (B S : Nat) (n1 : Bool) (u1 v : Value) : Prop where
  x0 : wr.cell? ⟨B, 0, none⟩ = some (.bool n1)
  x1 : wr.cell? ⟨B, 1, none⟩ = some u1
  r0 : wr.cell? ⟨B + 1, 0, none⟩ = some (.bool false)
  r1 : wr.cell? ⟨B + 1, 1, none⟩ = some (.slice none 0 0)
  f0 : wr.frozen? ⟨B + 1, 0, none⟩ = false
  f1 : wr.frozen? ⟨B + 1, 1, none⟩ = false
  c0 : wr.cell? ⟨B + 1 + 1, 0, none⟩ = some (.bool false)
  c1 : wr.cell? ⟨B + 1 + 1, 1, none⟩ = some v
  g0 : wr.frozen? ⟨B + 1 + 1, 0, none⟩ = false
  g1 : wr.frozen? ⟨B + 1 + 1, 1, none⟩ = false
  le : S ≤ wr.heap.size
  below : Below B w wr
theorem TB.keep {w wr w' : World} {B S : Nat} {n1 : Bool} {u1 v : Value} (h : TB w wr B S n1 u1 v) (hS : B + 1 + 1 < S) (hb : Below S wr w') : TB w w' B S n1 u1 v := by
  have c : ∀ b o, b < S → w'.cell? ⟨b, o, none⟩ = wr.cell? ⟨b, o, none⟩ := fun b o h => hb.cell (p := ⟨b, o, none⟩) h
  have f : ∀ b o, b < S → w'.frozen? ⟨b, o, none⟩ = wr.frozen? ⟨b, o, none⟩ := fun b o h => hb.frozen (p := ⟨b, o, none⟩) h
  exact ⟨(c _ _ (by omega)).trans h.x0, (c _ _ (by omega)).trans h.x1, (c _ _ (by omega)).trans h.r0, (c _ _ (by omega)).trans h.r1, (f _ _ (by omega)).trans h.f0, (f _ _ (by omega)).trans h.f1,
    (c _ _ (by omega)).trans h.c0, (c _ _ (by omega)).trans h.c1, (f _ _ (by omega)).trans h.g0, (f _ _ (by omega)).trans h.g1, Nat.le_trans h.le hb.size, h.below.trans (hb.mono (by omega))⟩
theorem TB.store {w wr : World} {B S : Nat} {n1 : Bool} {u1 v : Value} (h : TB w wr B S n1 u1 v) (v' : Value) : TB w (wr.setCell ⟨B + 1 + 1, 1, none⟩ v') B S n1 u1 v' := by
  have c : ∀ b o, b ≠ B + 1 + 1 → (wr.setCell ⟨B + 1 + 1, 1, none⟩ v').cell? ⟨b, o, none⟩ = wr.cell? ⟨b, o, none⟩ := fun b o e => World.cell?_of_block (a := ⟨b, o, none⟩) (Below.heap_setCell _ _ _ _ e)
  have f : ∀ b o, b ≠ B + 1 + 1 → (wr.setCell ⟨B + 1 + 1, 1, none⟩ v').frozen? ⟨b, o, none⟩ = wr.frozen? ⟨b, o, none⟩ := fun b o e => World.frozen?_of_block (a := ⟨b, o, none⟩) (Below.heap_setCell _ _ _ _ e)
  have n0 : (⟨B + 1 + 1, 1, none⟩ : Addr) ≠ ⟨B + 1 + 1, 0, none⟩ := by simp
  have e0 : (wr.setCell ⟨B + 1 + 1, 1, none⟩ v').cell? ⟨B + 1 + 1, 0, none⟩ = some (.bool false) := (World.cell?_setCell_other _ _ _ _ n0).trans h.c0
  have e1 : (wr.setCell ⟨B + 1 + 1, 1, none⟩ v').cell? ⟨B + 1 + 1, 1, none⟩ = some v' := World.cell?_setCell_same _ _ _ h.c1
  have g0 : (wr.setCell ⟨B + 1 + 1, 1, none⟩ v').frozen? ⟨B + 1 + 1, 0, none⟩ = false := by rw [World.frozen?_setCell]; exact h.g0
  have g1 : (wr.setCell ⟨B + 1 + 1, 1, none⟩ v').frozen? ⟨B + 1 + 1, 1, none⟩ = false := by rw [World.frozen?_setCell]; exact h.g1
  have le : S ≤ (wr.setCell ⟨B + 1 + 1, 1, none⟩ v').heap.size := by rw [World.size_setCell]; exact h.le
  have bl : Below B w (wr.setCell ⟨B + 1 + 1, 1, none⟩ v') := h.below.setCell (show B ≤ B + 1 + 1 by omega) _
  exact ⟨(c _ _ (by omega)).trans h.x0, (c _ _ (by omega)).trans h.x1, (c _ _ (by omega)).trans h.r0, (c _ _ (by omega)).trans h.r1, (f _ _ (by omega)).trans h.f0, (f _ _ (by omega)).trans h.f1, e0, e1, g0, g1, le, bl⟩
theorem OW.setBox {k : IntKind} {T : TypeId} {w : World} {ws : List Int} {S B : Nat} {v : Value} (h : OW k T w S v ws) (hB : B < S) {i : Nat} (x : Value) : OW k T (w.setCell ⟨B, i, none⟩ x) S v ws := by
  obtain ⟨h1, h2⟩ := h
  refine ⟨h1, ?_⟩
  rcases h2 with h2 | ⟨g, cap, cur, hv, hg, hh, r⟩
  · exact .inl h2
  · exact .inr ⟨g, cap, cur, hv, hg, (Below.heap_setCell _ _ _ _ (by simp; omega)).trans hh, r⟩
end
section
open Go.ChangeShapes Go.WideShapes Go.ChangeAt Go.RowKit
set_option linter.unusedVariables false
set_option linter.unusedSimpArgs false
end
section
open Go.ChangeShapes Go.WideShapes Go.ChangeAt Go.RowKit
set_option linter.unusedVariables false
set_option linter.unusedSimpArgs false
theorem Mine.form {k : IntKind} {T : TypeId} {w : World} {B : Nat} {u : Value} {ws : List Int} (h : Mine k T w B u ws) : ∃ p c, u = .slice p ws.length c := by
  rcases h with ⟨rfl, rfl⟩ | ⟨g, c, cur, h0, _⟩
  · exact ⟨_, _, rfl⟩
  · exact ⟨_, _, h0⟩
/-- A sign and the digits of a sum or a difference. -/
theorem Sgn.made {b : Int} (hb : 0 < b) {n : Bool} {os : List Int} {a z : Int} (hc : Canon b os) (hv : val b os = a) (hp : n = true → 0 < a) (hz : sg n a = z) : Sgn b n os z := by
  refine ⟨hc, fun e => ?_, by rw [hv, hz]⟩
  have h1 := hp e
  cases os with
  | nil => simp [val] at hv; omega
  | cons d r => simp
theorem Sgn.pos {b : Int} (hb : 0 < b) {n : Bool} {ws : List Int} {z : Int} (h : Sgn b n ws z) (e : n = true) : 0 < val b ws := h.canon.pos hb (h.sign e)
theorem len_le10 {xs ys : List Int} (hx : Canon 10 xs) (hy : Canon 10 ys) (h : val 10 xs ≤ val 10 ys) : xs.length ≤ ys.length := by
  apply Classical.byContradiction
  intro hc
  have := len_lt (b := 10) (by decide) hy hx (by omega)
  omega
end
end Go.Proofs.YtmfckhhmalogdaaGreatDoor
