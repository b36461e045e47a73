/- strconv's shortest digits of 1.0, run. strconv's text of 1.0, run: the digits. strconv's text of 1.0, run: rows of bytes of one's own; the text from the digit. strconv's text of 1.0, run: ftoa64, FormatFloat. strconv's text of 1.0, run: FormatFloat, Cut, Atoi. -/
import Derived.Test.YtpebnofjcodikaaGreatDoorPGRlF
import Derived.Test.YtpebnofjcodikaaGreatDoorShelfR
import Derived.Lib.AppendIntMem
import Derived.Lib.ItoaLen
import Derived.Test.YtpebnofjcodikaaGreatDoorPGWg
import Derived.Test.YtpebnofjcodikaaGreatDoorPGWa
import Derived.RegionTactic
import Derived.ChangeAlike
import Derived.Deep.RegionHeld3
import Derived.Lib.ConvBytes
namespace Go.Proofs.YtpebnofjcodikaaGreatDoor
section
open Go Go.ChangeShapes Go.WideShapes Go.RowKit
set_option linter.unusedVariables false
set_option linter.unusedSimpArgs false
/-- The power table's place for 10^16. -/
structure PT (w : World) : Prop where
  hi : w.cell? ⟨14, 728, none⟩ = some (.int .u64 10240000000000000000)
  lo : w.cell? ⟨14, 729, none⟩ = some (.int .u64 0)
theorem PT.lt {w : World} (h : PT w) : 14 < w.heap.size := World.block_lt_of_cell? w ⟨14, 728, none⟩ h.hi
theorem PT.block {w w' : World} (h : PT w) (e : w'.heap[14]? = w.heap[14]?) : PT w' :=
  ⟨(World.cell?_of_block (a := ⟨14, 728, none⟩) e).trans h.hi, (World.cell?_of_block (a := ⟨14, 729, none⟩) e).trans h.lo⟩
theorem PT.keep {w w' : World} (h : PT w) (hb : Below w.heap.size w w') : PT w' := h.block (hb.block _ h.lt)
theorem PT.alloc {w : World} (h : PT w) (o : Obj) : PT (w.alloc o) := h.keep ((Below.refl _ _).alloc (Nat.le_refl _) _)
/-- A box of three cells. -/
structure Box3 (w : World) (B : Nat) (a b c : Value) : Prop where
  c0 : w.cell? ⟨B, 0, none⟩ = some a
  c1 : w.cell? ⟨B, 1, none⟩ = some b
  c2 : w.cell? ⟨B, 2, none⟩ = some c
  f0 : w.frozen? ⟨B, 0, none⟩ = false
  f1 : w.frozen? ⟨B, 1, none⟩ = false
  f2 : w.frozen? ⟨B, 2, none⟩ = false
theorem Box3.lt {w : World} {B : Nat} {a b c : Value} (h : Box3 w B a b c) : B < w.heap.size := World.block_lt_of_cell? w ⟨B, 0, none⟩ h.c0
theorem Box3.new (X : World) (a b c : Value) (T : TypeId) {B : Nat} (e : B = X.heap.size) : Box3 (X.alloc (.cells #[a, b, c] T)) B a b c := by
  subst e; exact ⟨by simp, by simp, by simp, by simp, by simp, by simp⟩
theorem Box3.keep {w w' : World} {B : Nat} {a b c : Value} (h : Box3 w B a b c) (hb : Below w.heap.size w w') : Box3 w' B a b c :=
  ⟨(World.cell?_of_block (a := ⟨B, 0, none⟩) (hb.block B h.lt)).trans h.c0, (World.cell?_of_block (a := ⟨B, 1, none⟩) (hb.block B h.lt)).trans h.c1, (World.cell?_of_block (a := ⟨B, 2, none⟩) (hb.block B h.lt)).trans h.c2,
    (World.frozen?_of_block (a := ⟨B, 0, none⟩) (hb.block B h.lt)).trans h.f0, (World.frozen?_of_block (a := ⟨B, 1, none⟩) (hb.block B h.lt)).trans h.f1, (World.frozen?_of_block (a := ⟨B, 2, none⟩) (hb.block B h.lt)).trans h.f2⟩
theorem Box3.put {w : World} {B : Nat} {a b c : Value} (x y z : Value) (h : Box3 w B a b c) : Box3 (((w.setCell ⟨B, 0, none⟩ x).setCell ⟨B, 1, none⟩ y).setCell ⟨B, 2, none⟩ z) B x y z :=
  ⟨(World.cell?_setCell_other _ _ _ _ (by simp)).trans ((World.cell?_setCell_other _ _ _ _ (by simp)).trans (World.cell?_setCell_same _ _ _ h.c0)),
    (World.cell?_setCell_other _ _ _ _ (by simp)).trans (World.cell?_setCell_same _ _ _ ((World.cell?_setCell_other _ _ _ _ (by simp)).trans h.c1)),
    World.cell?_setCell_same _ _ _ ((World.cell?_setCell_other _ _ _ _ (by simp)).trans ((World.cell?_setCell_other _ _ _ _ (by simp)).trans h.c2)), by simp [h.f0], by simp [h.f1], by simp [h.f2]⟩
end
section
open Go Go.ChangeShapes Go.WideShapes Go.RowKit Go.Sort Go.Lib
set_option linter.unusedVariables false
set_option linter.unusedSimpArgs false
/-- A row of sixteen noughts. -/
def No (w : World) (B : Nat) : Prop := ∀ j, j < 16 → w.cell? ⟨B, j, none⟩ = some (.int .u8 0) ∧ w.frozen? ⟨B, j, none⟩ = false
end
section
open Go Go.ChangeShapes Go.WideShapes Go.RowKit
set_option linter.unusedVariables false
set_option linter.unusedSimpArgs false
/-- A row of bytes of one's own. -/
def RB8 (B : Nat) (w : World) (v : Value) (l : List Int) : Prop := w.ownsRow B 5 1 v l.length (l.map (Value.int .u8))
theorem RB8.below {B : Nat} {w w' : World} {v : Value} {l : List Int} (h : RB8 B w v l) (hb : Below w.heap.size w w') : RB8 B w' v l := OW.keep (k := .u8) h hb
theorem RB8.text {B : Nat} {w : World} {v : Value} {l : List Int} (h : RB8 B w v l) (hl : l.length ≤ 1000) (h0 : 0 < l.length) :
    (convert 38 9 v).run Tryz.prog w = .ok (.string (strOfNums l)) w := by
  rcases OW.rb (T := 5) h (by omega) with ⟨p, rfl, e⟩ | ⟨b, off, c, rfl, h1, h2, h3⟩
  · rw [e] at h0; simp at h0
  · exact run_convert_bytes_arg w 38 5 Tryz.underlying38 Tryz.underlying5 b off _ c l rfl h3 _ Tryz.underlying9
theorem RB8.form {B : Nat} {w : World} {v : Value} {l : List Int} (h : RB8 B w v l) : ∃ p c, v = .slice p l.length c := by
  rcases h.2 with ⟨h1, h2⟩ | ⟨g, cap, cur, h1, _⟩
  · exact ⟨_, _, by rw [h1, h2]⟩
  · exact ⟨_, _, h1⟩
end
section
open Go Go.ChangeShapes Go.WideShapes Go.RowKit
set_option linter.unusedVariables false
set_option linter.unusedSimpArgs false
def P10R (w : World) : Prop := Lib.TabIs Tryz.prog w "internal/strconv.uint64pow10" .u64 Lib.pow10Tab
@[go_sem] theorem run_sbits (b : Nat) (w : World) : (callFunc 181 #[.float .f64 b]).run Tryz.prog w = .ok (.value (.int .u64 (b : Int))) w := by
  rw [run_callFunc_extern Tryz.func181 (by kernel_rfl) (by kernel_rfl) (by kernel_rfl) (e := Extern.MathFloatBits.float64bits) (by kernel_rfl)]
  rfl
theorem No.keep {w w' : World} {B : Nat} (h : No w B) (hb : Below w.heap.size w w') : No w' B := fun j hj => by
  have hl : B < w.heap.size := World.block_lt_of_cell? w ⟨B, j, none⟩ (h j hj).1
  exact ⟨(World.cell?_of_block (a := ⟨B, j, none⟩) (hb.block B hl)).trans (h j hj).1, (World.frozen?_of_block (a := ⟨B, j, none⟩) (hb.block B hl)).trans (h j hj).2⟩
theorem P10R.keep {w w' : World} (h : P10R w) (hb : Below w.heap.size w w') : P10R w' := by
  unfold P10R Lib.TabIs World.var? at *
  cases hg : Tryz.prog.globalNamed "internal/strconv.uint64pow10" with
  | none => simp [hg] at h
  | some g =>
    simp only [hg, Option.bind_some] at h ⊢
    have hlt : g < w.heap.size := by
      by_cases hx : g < w.heap.size
      · exact hx
      · rw [Array.getElem?_eq_none (by omega)] at h
        cases h
    rw [hb.block g hlt]
    exact h
end
section
open Go Go.ChangeShapes Go.WideShapes Go.RowKit
set_option linter.unusedVariables false
set_option linter.unusedSimpArgs false
end
end Go.Proofs.YtpebnofjcodikaaGreatDoor
