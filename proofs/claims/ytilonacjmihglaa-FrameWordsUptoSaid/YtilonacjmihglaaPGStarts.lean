/- The contract of the function that finds where the objects begin: a bit for each address. The contract of the function that looks at tagged words: are they good, and addresses among them those of objects? The contract of the function that tells whether all words of a list are 0. -/
import Derived.Test.YtilonacjmihglaaPArena
import Derived.Test.YtilonacjmihglaaPScan
import Derived.WalkLawsBesides
import Derived.LoopTactic
import Derived.BigRegion
namespace Go.Proofs.Ytilonacjmihglaa
section
open Go.ChangeShapes Go.WideShapes Go.ChangeAt Go.RowKit
set_option linter.unusedVariables false
set_option linter.unusedSimpArgs false
theorem infoU64 : (Try.prog.info? 29).map (fun i => (i.zero, i.size, i.bytes)) = some (some (.int .u64 0), 1, 8) := by kernel_rfl
def StartsRow (w : World) (g n : Nat) (done : List Nat) : Prop :=
  ∃ s : Nat → Nat, w.rowIs g 29 n (fun i => .int .u64 (s i)) ∧ (∀ i, s i < 18446744073709551616) ∧ ∀ x, bitAt s x = decide (x ∈ done)
def Found (W : World) (ws : List Int) (e : Ending) (w' : World) : Prop :=
  Below W.heap.size W w' ∧ ((scan ws 1 = none ∧ e = .returned (.tuple #[.slice none 0 0, .bool false])) ∨
    ∃ l g, scan ws 1 = some l ∧ e = .returned (.tuple #[.slice (some ⟨g, 0, none⟩) (ws.length / 64 + 1) (ws.length / 64 + 1), .bool true]) ∧ W.heap.size ≤ g ∧ StartsRow w' g (ws.length / 64 + 1) l)
theorem Found.no {W w' : World} {ws : List Int} (h : scan ws 1 = none) (hb : Below W.heap.size W w') : Found W ws (.returned (.tuple #[.slice none 0 0, .bool false])) w' := ⟨hb, .inl ⟨h, rfl⟩⟩
theorem Found.yes {W w' : World} {ws : List Int} {l : List Nat} {g : Nat} (h : scan ws 1 = some l) (hb : Below W.heap.size W w') (hg : W.heap.size ≤ g) (hs : StartsRow w' g (ws.length / 64 + 1) l) :
    Found W ws (.returned (.tuple #[.slice (some ⟨g, 0, none⟩) (ws.length / 64 + 1) (ws.length / 64 + 1), .bool true])) w' := ⟨hb, .inr ⟨l, g, h, rfl, hg, hs⟩⟩
theorem StartsRow.keep {w w' : World} {g n : Nat} {l : List Nat} (h : StartsRow w g n l) (hb : Below w.heap.size w w') : StartsRow w' g n l := by
  obtain ⟨s, h1, h2, h3⟩ := h
  exact ⟨s, h1.of_block (hb.block _ h1.lt), h2, h3⟩
theorem or_pow (sv : Nat) (h : sv < 18446744073709551616) (k : Nat) : bits BinOp.or IntKind.u64 (sv : Int) (IntKind.u64.wrap (2 ^ (k % 64))) = ((sv ||| 2 ^ (k % 64) : Nat) : Int) := by
  have hp : (2 : Nat) ^ (k % 64) < 18446744073709551616 := Nat.lt_of_lt_of_le (Nat.pow_lt_pow_right (by decide) (Nat.mod_lt k (by decide : 0 < 64))) (Nat.le_refl (2 ^ 64))
  have e : IntKind.u64.wrap (2 ^ (k % 64)) = ((2 ^ (k % 64) : Nat) : Int) := by
    rw [u64w]
    have : (2 : Int) ^ (k % 64) = ((2 ^ (k % 64) : Nat) : Int) := (Int.natCast_pow 2 (k % 64)).symm
    rw [this]; clear this; generalize (2 : Nat) ^ (k % 64) = q at hp ⊢; omega
  rw [e]
  exact u64_or_nat _ _ h hp
theorem StartsRow.bit {w : World} {g n : Nat} {l : List Nat} (h : StartsRow w g n l) (k : Nat) (hk : k / 64 < n) :
    ∃ sv : Nat, w.cell? ⟨g, k / 64, none⟩ = some (.int .u64 sv) ∧ w.frozen? ⟨g, k / 64, none⟩ = false ∧ sv < 18446744073709551616 ∧
      StartsRow (w.setCell ⟨g, k / 64, none⟩ (.int .u64 (bits BinOp.or IntKind.u64 (sv : Int) (IntKind.u64.wrap (2 ^ (k % 64)))))) g n (l ++ [k]) := by
  obtain ⟨s, h1, h2, h3⟩ := h
  refine ⟨s (k / 64), h1.cell hk, h1.frozen _, h2 _, setBit s k, ?_, setBit_lt h2 k, fun x => ?_⟩
  · refine (h1.set (k / 64) _).congr fun i hi => ?_
    rw [or_pow _ (h2 _)]
    unfold setBit
    split
    · rename_i e; rw [e]
    · rfl
  · rw [bitAt_setBit, h3]
    by_cases hx : x = k <;> simp [hx]
/-- The state of the loop. -/
structure FS (w : World) (v : Value) (ws : List Int) (k : Nat) (done : List Nat) (wr : World) : Prop where
  up : Upto ws k done
  le : k ≤ ws.length ∨ k = 1
  box : wr.cell? ⟨w.heap.size, 0, none⟩ = some v
  row : StartsRow wr (w.heap.size + 1) (ws.length / 64 + 1) done
  below : Below w.heap.size w wr
theorem FS.keep {w wr w1 : World} {v : Value} {ws : List Int} {k : Nat} {done : List Nat} (h : FS w v ws k done wr) (hb : Below wr.heap.size wr w1) : FS w v ws k done w1 :=
  ⟨h.up, h.le, below_cell hb h.box, h.row.keep hb, h.below.trans (hb.mono h.below.size)⟩
theorem FS.start (w : World) (v : Value) (ws : List Int) (o : Obj) (ho : (w.alloc o).cell? ⟨w.heap.size, 0, none⟩ = some v) : FS w v ws 1 [] ((w.alloc o).alloc (.cells (madeCells #[.int .u64 0] (ws.length / 64 + 1)) 29)) :=
  ⟨Upto.start ws, .inr rfl, alloc_cell ho _, ⟨fun _ => 0, by
    have := World.rowIs_made (w.alloc o) (.int .u64 0) (ws.length / 64 + 1) 29
    simpa using this, fun _ => (by decide : 0 < 18446744073709551616), fun x => by simp [bitAt]⟩, ((Below.refl _ _).alloc (Nat.le_refl _) _).alloc (by simp) _⟩
theorem FS.next {w w1 : World} {v : Value} {ws : List Int} {k : Nat} {done : List Nat} (h : FS w v ws k done w1) (hk : k < ws.length) (ho : okAt ws k = true) (x : Value)
    (hs : StartsRow (w1.setCell ⟨w.heap.size + 1, k / 64, none⟩ x) (w.heap.size + 1) (ws.length / 64 + 1) (done ++ [k])) : FS w v ws (k + sz ws k) (done ++ [k]) (w1.setCell ⟨w.heap.size + 1, k / 64, none⟩ x).drew :=
  ⟨h.up.step hk ho, .inl (okAt_sz ho).2.2.1, by
    have := h.box
    show (w1.setCell ⟨w.heap.size + 1, k / 64, none⟩ x).cell? ⟨w.heap.size, 0, none⟩ = some v
    rw [← this]; exact World.cell?_of_block (Below.heap_setCell _ _ _ _ (by simp)), hs, (h.below.setCell (by simp) x).drew⟩
end
section
open Go.ChangeShapes Go.WideShapes Go.ChangeAt Go.RowKit
set_option linter.unusedVariables false
set_option linter.unusedSimpArgs false
def rightW (l : List Nat) (x : Int) : Bool := !decide (kindOf x = 3) && (!decide (kindOf x = 0) || decide ((x / 4).toNat ∈ l))
theorem all_take_succ (p : Int → Bool) (xs : List Int) (k : Nat) (hk : k < xs.length) : (xs.take (k + 1)).all p = ((xs.take k).all p && p (xs.getD k 0)) := by
  rw [List.take_succ_eq_append_getElem hk, List.all_append]
  simp [List.getD_eq_getElem?_getD, List.getElem?_eq_getElem hk]
theorem all_false_of (p : Int → Bool) (xs : List Int) (k : Nat) (hk : k < xs.length) (h : p (xs.getD k 0) = false) : xs.all p = false := by
  rw [List.all_eq_false]
  refine ⟨xs.getD k 0, ?_, by rw [h]; simp⟩
  simp [List.getD_eq_getElem?_getD, List.getElem?_eq_getElem hk]
theorem bit_test (sv : Nat) (h : sv < 18446744073709551616) (j : Nat) : bits BinOp.and IntKind.u64 ((sv : Int) / 2 ^ j) 1 = if sv.testBit j then 1 else 0 := by
  have e : (sv : Int) / 2 ^ j = ((sv / 2 ^ j : Nat) : Int) := by
    rw [show (2 : Int) ^ j = ((2 ^ j : Nat) : Int) from (Int.natCast_pow 2 j).symm]; exact (Int.natCast_ediv _ _).symm
  have hq : sv / 2 ^ j ≤ sv := Nat.div_le_self _ _
  rw [e, Nat.testBit_eq_decide_div_mod_eq]
  generalize sv / 2 ^ j = q at *
  have := bits_mask .u64 64 (by decide) (fun n h₀ h₁ => by rw [u64w]; omega) 1 (by decide) (q : Int) (by omega) (by omega)
  rw [show (2 : Int) ^ 1 - 1 = 1 by rfl, show (2 : Int) ^ 1 = 2 by rfl] at this
  rw [this]
  by_cases h1 : q % 2 = 1
  · rw [decide_eq_true h1, if_pos rfl]; omega
  · rw [decide_eq_false h1, if_neg (by simp)]; omega
theorem StartsRow.read {w : World} {g n : Nat} {l : List Nat} (h : StartsRow w g n l) (k : Nat) (hk : k / 64 < n) :
    ∃ sv : Nat, w.cell? ⟨g, k / 64, none⟩ = some (.int .u64 sv) ∧ bits BinOp.and IntKind.u64 ((sv : Int) / 2 ^ (k % 64)) 1 = if k ∈ l then 1 else 0 := by
  obtain ⟨s, h1, h2, h3⟩ := h
  refine ⟨s (k / 64), h1.cell hk, ?_⟩
  rw [bit_test _ (h2 _)]
  have := h3 k
  unfold bitAt at this
  rw [this]
  by_cases hm : k ∈ l <;> simp [hm]
end
section
open Go.ChangeShapes Go.WideShapes Go.ChangeAt Go.RowKit
set_option linter.unusedVariables false
set_option linter.unusedSimpArgs false
theorem or2 (a b : Int) (h1 : 0 ≤ a ∧ a ≤ 18446744073709551615) (h2 : 0 ≤ b ∧ b ≤ 18446744073709551615) :
    0 ≤ bits BinOp.or IntKind.u64 a b ∧ bits BinOp.or IntKind.u64 a b ≤ 18446744073709551615 ∧ (bits BinOp.or IntKind.u64 a b = 0 ↔ a = 0 ∧ b = 0) := by
  rw [u64_or a b h1.1 (by omega) h2.1 (by omega)]
  have hlt : a.toNat ||| b.toNat < 2 ^ 64 := Nat.or_lt_two_pow (by omega) (by omega)
  refine ⟨by omega, by omega, ?_⟩
  have : a.toNat ||| b.toNat = 0 ↔ a.toNat = 0 ∧ b.toNat = 0 := Nat.or_eq_zero_iff
  omega
theorem or8 (x0 x1 x2 x3 x4 x5 x6 x7 : Int) (h0 : 0 ≤ x0 ∧ x0 ≤ 18446744073709551615) (h1 : 0 ≤ x1 ∧ x1 ≤ 18446744073709551615) (h2 : 0 ≤ x2 ∧ x2 ≤ 18446744073709551615) (h3 : 0 ≤ x3 ∧ x3 ≤ 18446744073709551615) (h4 : 0 ≤ x4 ∧ x4 ≤ 18446744073709551615) (h5 : 0 ≤ x5 ∧ x5 ≤ 18446744073709551615) (h6 : 0 ≤ x6 ∧ x6 ≤ 18446744073709551615) (h7 : 0 ≤ x7 ∧ x7 ≤ 18446744073709551615) :
    (bits BinOp.or IntKind.u64 (bits BinOp.or IntKind.u64 (bits BinOp.or IntKind.u64 (bits BinOp.or IntKind.u64 (bits BinOp.or IntKind.u64 (bits BinOp.or IntKind.u64 (bits BinOp.or IntKind.u64 x0 x1) x2) x3) x4) x5) x6) x7) = 0 ↔ x0 = 0 ∧ x1 = 0 ∧ x2 = 0 ∧ x3 = 0 ∧ x4 = 0 ∧ x5 = 0 ∧ x6 = 0 ∧ x7 = 0 := by
  have g1 := or2 x0 x1 h0 h1
  have g2 := or2 _ x2 ⟨g1.1, g1.2.1⟩ h2
  have g3 := or2 _ x3 ⟨g2.1, g2.2.1⟩ h3
  have g4 := or2 _ x4 ⟨g3.1, g3.2.1⟩ h4
  have g5 := or2 _ x5 ⟨g4.1, g4.2.1⟩ h5
  have g6 := or2 _ x6 ⟨g5.1, g5.2.1⟩ h6
  have g7 := or2 _ x7 ⟨g6.1, g6.2.1⟩ h7
  rw [g7.2.2, g6.2.2, g5.2.2, g4.2.2, g3.2.2, g2.2.2, g1.2.2]
  simp only [and_assoc]
theorem all_take8 (xs : List Int) (k : Nat) (hk : k + 8 ≤ xs.length) (h : (xs.take k).all (· == 0) = true) (hx : ∀ i, i < 8 → xs.getD (k + i) 0 = 0) : (xs.take (k + 8)).all (· == 0) = true := by
  have s : ∀ i, i ≤ 8 → (xs.take (k + i)).all (· == 0) = true := by
    intro i
    induction i with
    | zero => intro _; exact h
    | succ i ih =>
      intro hi
      rw [← Nat.add_assoc, all_take_succ _ _ _ (by omega), ih (by omega), hx i (by omega)]
      rfl
  exact s 8 (by omega)
theorem all_not8 (xs : List Int) (k : Nat) (hk : k + 8 ≤ xs.length) (hx : ¬ ∀ i, i < 8 → xs.getD (k + i) 0 = 0) : xs.all (· == 0) = false := by
  rcases Classical.not_forall.1 hx with ⟨i, hi⟩
  rcases Classical.not_imp.1 hi with ⟨h1, h2⟩
  exact all_false_of _ _ (k + i) (by omega) (by simpa using h2)
def lenOfV : Value → Nat | .slice _ n _ => n | _ => 0
theorem cut8 (b off k c n : Nat) (h : n ≤ c) : ∃ o', (if c - k = 8 then some (⟨b, off + k, none⟩ : Addr) else some ⟨b, off + k + 8, none⟩) = some ⟨b, o', none⟩ ∧ (k + 8 < n → o' = off + (k + 8)) := by
  by_cases e : c - k = 8
  · exact ⟨off + k, by rw [if_pos e], fun _ => by omega⟩
  · exact ⟨off + k + 8, by rw [if_neg e], fun _ => by omega⟩
end
end Go.Proofs.Ytilonacjmihglaa
