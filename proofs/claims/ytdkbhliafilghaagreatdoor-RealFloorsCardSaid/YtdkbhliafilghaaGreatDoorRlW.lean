/- strconv's text of 1.0, run: ftoa64, FormatFloat. -/
import Derived.Test.YtdkbhliafilghaaGreatDoorRlV
import Derived.RegionTactic
import Derived.ChangeAlike
import Derived.Deep.RegionHeld3
namespace Go.Proofs.YtdkbhliafilghaaGreatDoor
open Go Go.ChangeShapes Go.WideShapes Go.RowKit
theorem drew_mono {B : Nat} {w w' : World} (h : Below B w w') : Below B w w'.drew := ⟨h.os, h.tape, h.output, h.size, h.block⟩
set_option linter.unusedVariables false
set_option linter.unusedSimpArgs false
def P10R (w : World) : Prop := Lib.TabIs Tryz.prog w "internal/strconv.uint64pow10" .u64 Lib.pow10Tab
theorem len64_one (w : World) : Calls Tryz.prog 86 #[.int .u64 4503599627370496] w fun e w' => e = .returned (.int .i64 53) ∧ w = w' := by
  refine (Tryz.bits_Len64 4503599627370496 w (by omega) (by omega)).mono ?_
  rintro e w' ⟨rfl, rfl⟩
  exact ⟨by rw [show Lib.bitLen (Int.toNat 4503599627370496) = 53 by decide +kernel]; rfl, rfl⟩
theorem numDigits_one (w : World) (h : P10R w) : Calls Tryz.prog 89 #[.int .u64 1000000000000000] w fun e w' => e = .returned (.int .i64 16) ∧ w = w' := by
  refine (Tryz.internal_strconv_numDigits 1000000000000000 (by omega) (by omega) w h).mono ?_
  rintro e w' ⟨rfl, rfl⟩
  exact ⟨by rw [show Lib.nDigits 1000000000000000 = 16 by decide +kernel]; rfl, rfl⟩
@[go_sem] theorem run_sbits (b : Nat) (w : World) : (callFunc 82 #[.float .f64 b]).run Tryz.prog w = .ok (.value (.int .u64 (b : Int))) w := by
  rw [run_callFunc_extern Tryz.func82 (by kernel_rfl) (by kernel_rfl) (by kernel_rfl) (e := Extern.MathFloatBits.float64bits) (by kernel_rfl)]
  rfl
theorem no_new (w : World) (T : TypeId) : No (w.alloc (.cells #[.int .u8 0, .int .u8 0, .int .u8 0, .int .u8 0, .int .u8 0, .int .u8 0, .int .u8 0, .int .u8 0, .int .u8 0, .int .u8 0, .int .u8 0, .int .u8 0, .int .u8 0, .int .u8 0, .int .u8 0, .int .u8 0, .int .u8 0, .int .u8 0, .int .u8 0, .int .u8 0, .int .u8 0, .int .u8 0, .int .u8 0, .int .u8 0, .int .u8 0, .int .u8 0, .int .u8 0, .int .u8 0, .int .u8 0, .int .u8 0, .int .u8 0, .int .u8 0] T)) w.heap.size := fun j hj => by
  refine ⟨?_, World.frozen?_alloc_new _ _ _ _⟩
  rw [World.cell?_alloc_new]
  have : ∀ j : Fin 16,  (#[.int .u8 0, .int .u8 0, .int .u8 0, .int .u8 0, .int .u8 0, .int .u8 0, .int .u8 0, .int .u8 0, .int .u8 0, .int .u8 0, .int .u8 0, .int .u8 0, .int .u8 0, .int .u8 0, .int .u8 0, .int .u8 0, .int .u8 0, .int .u8 0, .int .u8 0, .int .u8 0, .int .u8 0, .int .u8 0, .int .u8 0, .int .u8 0, .int .u8 0, .int .u8 0, .int .u8 0, .int .u8 0, .int .u8 0, .int .u8 0, .int .u8 0, .int .u8 0] : Array Value)[j.val]? = some (.int .u8 0) := by
    intro j
    obtain ⟨j, hj⟩ := j
    match j, hj with
    | 0, _ | 1, _ | 2, _ | 3, _ | 4, _ | 5, _ | 6, _ | 7, _ | 8, _ | 9, _ | 10, _ | 11, _ | 12, _ | 13, _ | 14, _ | 15, _ => rfl
    | k + 16, h => omega
  exact this ⟨j, hj⟩
theorem No.keep {w w' : World} {B : Nat} (h : No w B) (hb : Below w.heap.size w w') : No w' B := fun j hj => by
  have hl : B < w.heap.size := World.block_lt_of_cell? w ⟨B, j, none⟩ (h j hj).1
  exact ⟨(World.cell?_of_block (a := ⟨B, j, none⟩) (hb.block B hl)).trans (h j hj).1, (World.frozen?_of_block (a := ⟨B, j, none⟩) (hb.block B hl)).trans (h j hj).2⟩
theorem P10R.keep {w w' : World} (h : P10R w) (hb : Below w.heap.size w w') : P10R w' := by
  unfold P10R Lib.TabIs World.var? at *
  cases hg : Tryz.prog.globalNamed "internal/strconv.uint64pow10" with
  | none => simp [hg] at h
  | some g =>
    simp only [hg, Option.bind_some] at h ⊢
    have hlt : g < w.heap.size := by
      by_cases hx : g < w.heap.size
      · exact hx
      · rw [Array.getElem?_eq_none (by omega)] at h
        cases h
    rw [hb.block g hlt]
    exact h
set_option maxRecDepth 100000 in
theorem ftoaE_one (B : Nat) (v : Value) (w : World) (hv : RB8 B w v []) (hB : B ≤ w.heap.size) (ht : PT w) (hp : P10R w) :
    Calls Tryz.prog 68 #[v, .float .f64 4607182418800017408, .int .u8 101, .int .i64 (-1)] w fun e w' => ∃ v', e = .returned v' ∧ RB8 B w' v' [49, 101, 43, 48, 48] ∧ Below B w w' := by
  obtain ⟨p0, k0, rfl⟩ := hv.form
  have h0 := run_sbits 4607182418800017408 w
  have e1 : bits BinOp.and .u64 4607182418800017408 4503599627370495 = 0 := by rfl
  have e2 : bits BinOp.or .u64 0 4503599627370496 = 4503599627370496 := by rfl
  have e3 : bits BinOp.and .i64 1023 2047 = 1023 := by rfl
  obtain ⟨W1, hW1⟩ : ∃ x, (w.alloc (.cells #[.int .u8 0, .int .u8 0, .int .u8 0, .int .u8 0, .int .u8 0, .int .u8 0, .int .u8 0, .int .u8 0, .int .u8 0, .int .u8 0, .int .u8 0, .int .u8 0, .int .u8 0, .int .u8 0, .int .u8 0, .int .u8 0, .int .u8 0, .int .u8 0, .int .u8 0, .int .u8 0, .int .u8 0, .int .u8 0, .int .u8 0, .int .u8 0, .int .u8 0, .int .u8 0, .int .u8 0, .int .u8 0, .int .u8 0, .int .u8 0, .int .u8 0, .int .u8 0] 95)).drew = x := ⟨_, rfl⟩
  have hb1 : Below w.heap.size w W1 := by rw [← hW1]; exact drew_mono ((Below.refl _ _).alloc (Nat.le_refl _) _)
  have hn1 : No W1 w.heap.size := by rw [← hW1]; exact no_new w _
  have hs1 : W1.heap.size = w.heap.size + 1 := by rw [← hW1]; simp
  have HB1 := Lib.hid hb1
  have HN1 := Lib.hid hn1
  have HS1 := Lib.hid hs1
  have HV := Lib.hid hv
  have HT1 := Lib.hid (ht.keep hb1)
  have HP1 := Lib.hid (hp.keep hb1)
  have HH := Lib.hid hB
  clear hb1 hn1 hs1 hv ht hp hB
  go_enter Tryz.func68, Tryz.ntmps68
  go_wp2_with (first
    | (go_at_call 86; refine (len64_one _).mono ?_; rintro e w9 ⟨rfl, rfl⟩)
    | fail)
  go_region
  go_wp2_with (first
    | (go_at_call 86; refine (len64_one _).mono ?_; rintro e w9 ⟨rfl, rfl⟩)
    | (go_at_call 95; with_reducible refine (shortFloat_one W1 HT1.out).mono ?_; rintro e w2 ⟨rfl, hb⟩; have HB2 := Lib.hid hb; clear hb hW1)
    | fail)
  have hn2 : No w2.drew w.heap.size := (HN1.out.keep HB2.out).keep (drew_mono (Below.refl _ _))
  have HSD := Lib.hid (setDigits_one w.heap.size w2.drew hn2)
  have HND := Lib.hid (numDigits_one w2.drew ((HP1.out.keep HB2.out).keep (drew_mono (Below.refl _ _))))
  clear hn2
  go_region_held3 (fun w' => True) (first | trivial | fail) (first
    | (go_at_call 89; with_reducible refine HND.out.mono ?_; rintro e w9 ⟨rfl, rfl⟩)
    | (go_at_call 88; with_reducible refine HSD.out.mono ?_; rintro e w3 ⟨rfl, hc, hb⟩; have HC := Lib.hid hc; have HB3 := Lib.hid hb; clear hc hb HSD)
    | fail)
  have hb03 : Below w.heap.size w w3 := HB1.out.trans ((drew_mono (HB2.out.mono (by have := HS1.out; omega))).trans HB3.out)
  have hsz : B ≤ w3.heap.size := by have := hb03.size; have := HH.out; omega
  have HF := Lib.hid (fmtE_one B w.heap.size _ w3 (HV.out.below hb03) hsz HC.out)
  have HB03 := Lib.hid (hb03.mono HH.out)
  clear hb03
  go_wp2_with (first
    | (go_at_call 85; refine HF.out.mono ?_; rintro e w4 ⟨v', rfl, ho, hb⟩; have HO := Lib.hid ho; have HB4 := Lib.hid (HB03.out.trans hb); clear ho hb)
    | fail)
  go_ret
  exact ⟨_, rfl, HO.out, HB4.out⟩
set_option maxRecDepth 100000 in
theorem ftoaF_one (B : Nat) (v : Value) (w : World) (hv : RB8 B w v []) (hB : B ≤ w.heap.size) (ht : PT w) (hp : P10R w) :
    Calls Tryz.prog 68 #[v, .float .f64 4607182418800017408, .int .u8 102, .int .i64 (-1)] w fun e w' => ∃ v', e = .returned v' ∧ RB8 B w' v' [49] ∧ Below B w w' := by
  obtain ⟨p0, k0, rfl⟩ := hv.form
  have h0 := run_sbits 4607182418800017408 w
  have e1 : bits BinOp.and .u64 4607182418800017408 4503599627370495 = 0 := by rfl
  have e2 : bits BinOp.or .u64 0 4503599627370496 = 4503599627370496 := by rfl
  have e3 : bits BinOp.and .i64 1023 2047 = 1023 := by rfl
  obtain ⟨W1, hW1⟩ : ∃ x, (w.alloc (.cells #[.int .u8 0, .int .u8 0, .int .u8 0, .int .u8 0, .int .u8 0, .int .u8 0, .int .u8 0, .int .u8 0, .int .u8 0, .int .u8 0, .int .u8 0, .int .u8 0, .int .u8 0, .int .u8 0, .int .u8 0, .int .u8 0, .int .u8 0, .int .u8 0, .int .u8 0, .int .u8 0, .int .u8 0, .int .u8 0, .int .u8 0, .int .u8 0, .int .u8 0, .int .u8 0, .int .u8 0, .int .u8 0, .int .u8 0, .int .u8 0, .int .u8 0, .int .u8 0] 95)).drew = x := ⟨_, rfl⟩
  have hb1 : Below w.heap.size w W1 := by rw [← hW1]; exact drew_mono ((Below.refl _ _).alloc (Nat.le_refl _) _)
  have hn1 : No W1 w.heap.size := by rw [← hW1]; exact no_new w _
  have hs1 : W1.heap.size = w.heap.size + 1 := by rw [← hW1]; simp
  have HB1 := Lib.hid hb1
  have HN1 := Lib.hid hn1
  have HS1 := Lib.hid hs1
  have HV := Lib.hid hv
  have HT1 := Lib.hid (ht.keep hb1)
  have HP1 := Lib.hid (hp.keep hb1)
  have HH := Lib.hid hB
  clear hb1 hn1 hs1 hv ht hp hB
  go_enter Tryz.func68, Tryz.ntmps68
  go_wp2_with (first
    | (go_at_call 86; refine (len64_one _).mono ?_; rintro e w9 ⟨rfl, rfl⟩)
    | fail)
  go_region
  go_wp2_with (first
    | (go_at_call 86; refine (len64_one _).mono ?_; rintro e w9 ⟨rfl, rfl⟩)
    | (go_at_call 95; with_reducible refine (shortFloat_one W1 HT1.out).mono ?_; rintro e w2 ⟨rfl, hb⟩; have HB2 := Lib.hid hb; clear hb hW1)
    | fail)
  have hn2 : No w2.drew w.heap.size := (HN1.out.keep HB2.out).keep (drew_mono (Below.refl _ _))
  have HSD := Lib.hid (setDigits_one w.heap.size w2.drew hn2)
  have HND := Lib.hid (numDigits_one w2.drew ((HP1.out.keep HB2.out).keep (drew_mono (Below.refl _ _))))
  clear hn2
  go_region_held3 (fun w' => True) (first | trivial | fail) (first
    | (go_at_call 89; with_reducible refine HND.out.mono ?_; rintro e w9 ⟨rfl, rfl⟩)
    | (go_at_call 88; with_reducible refine HSD.out.mono ?_; rintro e w3 ⟨rfl, hc, hb⟩; have HC := Lib.hid hc; have HB3 := Lib.hid hb; clear hc hb HSD)
    | fail)
  have hb03 : Below w.heap.size w w3 := HB1.out.trans ((drew_mono (HB2.out.mono (by have := HS1.out; omega))).trans HB3.out)
  have hsz : B ≤ w3.heap.size := by have := hb03.size; have := HH.out; omega
  have HF := Lib.hid (fmtF_one B w.heap.size _ w3 (HV.out.below hb03) hsz HC.out)
  have HB03 := Lib.hid (hb03.mono HH.out)
  clear hb03
  go_wp2_with (first
    | (go_at_call 85; refine HF.out.mono ?_; rintro e w4 ⟨v', rfl, ho, hb⟩; have HO := Lib.hid ho; have HB4 := Lib.hid (HB03.out.trans hb); clear ho hb)
    | fail)
  go_ret
  exact ⟨_, rfl, HO.out, HB4.out⟩
end Go.Proofs.YtdkbhliafilghaaGreatDoor
