/- strconv's text of 1.0, run: FormatFloat, Cut, Atoi. -/
import Derived.Test.YtdkbhliafilghaaGreatDoorRlW
import Derived.Lib.ConvBytes
namespace Go.Proofs.YtdkbhliafilghaaGreatDoor
open Go Go.ChangeShapes Go.WideShapes Go.RowKit
set_option linter.unusedVariables false
set_option linter.unusedSimpArgs false
def Z24 : Array Value := Array.map (fun x => [Value.int IntKind.u8 0][x % 1]?.getD default) (Array.range 24)
theorem z24_size : Z24.size = 24 := by simp [Z24]
theorem mk24 (W : World) : (Instr.makeSlice 76 (.int .i64 0) (.int .i64 (max 3 24))).run Tryz.prog W = .ok (.slice (some ⟨W.heap.size, 0, none⟩) 0 24) (W.alloc (.cells Z24 5)) := by
  simp [Instr.makeSlice, go_sem]
  rw [show IntKind.i64.wrap (max 3 24) = 24 by decide, show IntKind.i64.wrap 0 = 0 by decide, show Tryz.t5.bytes = 1 from rfl]
  simp
  rfl
set_option maxRecDepth 100000 in
theorem iformatE_one (w : World) (ht : PT w) (hp : P10R w) :
    Calls Tryz.prog 52 #[.float .f64 4607182418800017408, .int .u8 101, .int .i64 (-1), .int .i64 64] w fun e w' => e = .returned (.string ⟨#[49, 101, 43, 48, 48]⟩) ∧ Below w.heap.size w w' := by
  have hmk := mk24 w
  have hb := (Below.refl w.heap.size w).alloc (Nat.le_refl _) (.cells Z24 5)
  have HF := Lib.hid (ftoaE_one w.heap.size _ (w.alloc (.cells Z24 5)) (own_fresh z24_size (by unfold maxLen; omega) (Nat.le_refl _)) (by simp) (ht.keep hb) (hp.keep hb))
  have HB := Lib.hid hb
  clear ht hp hb
  go_enter Tryz.func52, Tryz.ntmps52
  go_wp2_with (first
    | (go_at_call 68; refine HF.out.mono ?_; rintro e w4 ⟨v', rfl, ho, hb⟩; have hcv := ho.text (by simp) (by simp); have HB4 := Lib.hid (HB.out.trans hb); rw [show strOfNums [49, 101, 43, 48, 48] = ⟨#[49, 101, 43, 48, 48]⟩ by rfl] at hcv; obtain ⟨p8, k8, rfl⟩ := ho.form; simp only [List.length_cons, List.length_nil, Nat.zero_add, Nat.reduceAdd] at hcv; clear ho hb)
    | fail)
  go_ret
  exact ⟨rfl, HB4.out⟩
set_option maxRecDepth 100000 in
theorem iformatF_one (w : World) (ht : PT w) (hp : P10R w) :
    Calls Tryz.prog 52 #[.float .f64 4607182418800017408, .int .u8 102, .int .i64 (-1), .int .i64 64] w fun e w' => e = .returned (.string ⟨#[49]⟩) ∧ Below w.heap.size w w' := by
  have hmk := mk24 w
  have hb := (Below.refl w.heap.size w).alloc (Nat.le_refl _) (.cells Z24 5)
  have HF := Lib.hid (ftoaF_one w.heap.size _ (w.alloc (.cells Z24 5)) (own_fresh z24_size (by unfold maxLen; omega) (Nat.le_refl _)) (by simp) (ht.keep hb) (hp.keep hb))
  have HB := Lib.hid hb
  clear ht hp hb
  go_enter Tryz.func52, Tryz.ntmps52
  go_wp2_with (first
    | (go_at_call 68; refine HF.out.mono ?_; rintro e w4 ⟨v', rfl, ho, hb⟩; have hcv := ho.text (by simp) (by simp); have HB4 := Lib.hid (HB.out.trans hb); rw [show strOfNums [49] = ⟨#[49]⟩ by rfl] at hcv; obtain ⟨p8, k8, rfl⟩ := ho.form; simp only [List.length_cons, List.length_nil, Nat.zero_add, Nat.reduceAdd] at hcv; clear ho hb)
    | fail)
  go_ret
  exact ⟨rfl, HB4.out⟩
theorem formatE_one (w : World) (ht : PT w) (hp : P10R w) :
    Calls Tryz.prog 37 #[.float .f64 4607182418800017408, .int .u8 101, .int .i64 (-1), .int .i64 64] w fun e w' => e = .returned (.string ⟨#[49, 101, 43, 48, 48]⟩) ∧ Below w.heap.size w w' := by
  have HF := Lib.hid (iformatE_one w ht hp)
  go_enter Tryz.func37, Tryz.ntmps37
  go_wp2_with (first | (go_at_call 52; with_reducible refine HF.out.mono ?_; rintro e w1 ⟨rfl, hb⟩; have HB := Lib.hid hb; clear hb) | fail)
  go_ret
  exact ⟨rfl, HB.out⟩
theorem formatF_one (w : World) (ht : PT w) (hp : P10R w) :
    Calls Tryz.prog 37 #[.float .f64 4607182418800017408, .int .u8 102, .int .i64 (-1), .int .i64 64] w fun e w' => e = .returned (.string ⟨#[49]⟩) ∧ Below w.heap.size w w' := by
  have HF := Lib.hid (iformatF_one w ht hp)
  go_enter Tryz.func37, Tryz.ntmps37
  go_wp2_with (first | (go_at_call 52; with_reducible refine HF.out.mono ?_; rintro e w1 ⟨rfl, hb⟩; have HB := Lib.hid hb; clear hb) | fail)
  go_ret
  exact ⟨rfl, HB.out⟩
set_option maxRecDepth 100000 in
theorem stcut_one (w : World) :
    Calls Tryz.prog 53 #[.string ⟨#[49, 101, 43, 48, 48]⟩, .string ⟨#[101]⟩] w fun e w' => e = .returned (.tuple #[.string ⟨#[49]⟩, .string ⟨#[43, 48, 48]⟩, .bool true]) ∧ Below w.heap.size w w' := by
  have hi : Calls Tryz.prog 69 #[.string ⟨#[49, 101, 43, 48, 48]⟩, .string ⟨#[101]⟩] w fun e w' => e = .returned (.int .i64 1) ∧ w = w' := by
    refine (Tryz.stringslite_Index_one ⟨#[49, 101, 43, 48, 48]⟩ 101 w).mono ?_
    rintro e w' ⟨rfl, rfl⟩
    exact ⟨by rw [show Lib.indexByte [49, 101, 43, 48, 48] 101 = 1 by decide +kernel], rfl⟩
  have HI := Lib.hid hi
  have x1 : (⟨#[49, 101, 43, 48, 48]⟩ : ByteArray).extract 0 1 = ⟨#[49]⟩ := by rfl
  have x2 : (⟨#[49, 101, 43, 48, 48]⟩ : ByteArray).extract 2 5 = ⟨#[43, 48, 48]⟩ := by rfl
  clear hi
  go_enter Tryz.func53, Tryz.ntmps53
  go_wp2_with (first | (go_at_call 69; refine HI.out.mono ?_; rintro e w9 ⟨rfl, rfl⟩) | fail)
  go_region
  go_wp2_with fail
  refine bodyPost_ret (v := .tuple #[.string ⟨#[49]⟩, .string ⟨#[43, 48, 48]⟩, .bool true]) (by simp [results, Tryz.results53, go_sem, x1, x2]) rfl ⟨rfl, drew_mono (Below.refl _ _)⟩
theorem cut_one (w : World) :
    Calls Tryz.prog 38 #[.string ⟨#[49, 101, 43, 48, 48]⟩, .string ⟨#[101]⟩] w fun e w' => e = .returned (.tuple #[.string ⟨#[49]⟩, .string ⟨#[43, 48, 48]⟩, .bool true]) ∧ Below w.heap.size w w' := by
  have HF := Lib.hid (stcut_one w)
  go_enter Tryz.func38, Tryz.ntmps38
  go_wp2_with (first | (go_at_call 53; refine HF.out.mono ?_; rintro e w1 ⟨rfl, hb⟩; have HB := Lib.hid hb; clear hb) | fail)
  refine bodyPost_ret (v := .tuple #[.string ⟨#[49]⟩, .string ⟨#[43, 48, 48]⟩, .bool true]) (by simp [results, Tryz.results38, go_sem]) rfl ⟨rfl, HB.out⟩
theorem below_bytesWorld (w : World) (e : TypeId) (s : ByteArray) : Below w.heap.size w (Lib.bytesWorld w e s) := by
  refine ⟨?_, ?_, ?_, by rw [Lib.bytesWorld_size]; omega, fun k hk => Lib.bytesWorld_at_old w e s k hk⟩ <;> simp [Lib.bytesWorld, World.freeze, World.alloc, World.drew, -World.alloc_eq, -World.drew_eq]
set_option maxRecDepth 100000 in
theorem iatoi_one (w : World) :
    Calls Tryz.prog 54 #[.string ⟨#[43, 48, 48]⟩] w fun e w' => e = .returned (.tuple #[.int .i64 0, Value.nilIface]) ∧ Below w.heap.size w w' := by
  have x1 : (⟨#[43, 48, 48]⟩ : ByteArray).extract 1 3 = ⟨#[48, 48]⟩ := by rfl
  have hcv := Lib.run_convert_string_bytes (P := Tryz.prog) w 9 76 5 ⟨#[48, 48]⟩ Tryz.underlying9 Tryz.underlying76 Tryz.underlying5
  have hc0 := Lib.bytesWorld_cell w 5 ⟨#[48, 48]⟩ 0 (by decide)
  have hc1 := Lib.bytesWorld_cell w 5 ⟨#[48, 48]⟩ 1 (by decide)
  have HB := Lib.hid (below_bytesWorld w 5 ⟨#[48, 48]⟩)
  obtain ⟨W1, hW1⟩ : ∃ x, Lib.bytesWorld w 5 ⟨#[48, 48]⟩ = x := ⟨_, rfl⟩
  obtain ⟨cp, hcp⟩ : ∃ x, grownCap w (⟨#[48, 48]⟩ : ByteArray).size 0 5 = x := ⟨_, rfl⟩
  rw [hW1, hcp] at hcv
  rw [hW1] at hc0 hc1 HB
  rw [show (⟨#[48, 48]⟩ : ByteArray).size = 2 from rfl] at hcv
  have hd0 : W1.cell? ⟨w.heap.size, 0, none⟩ = some (.int .u8 48) := hc0
  have hd1 : W1.cell? ⟨w.heap.size, 1, none⟩ = some (.int .u8 48) := hc1
  clear hW1 hcp hc0 hc1
  go_enter Tryz.func54, Tryz.ntmps54
  go_wp2_with fail
  go_loopw [6, 49] (fun s6 si wr => ∃ i : Nat, si = .int .i64 i ∧ i ≤ 2 ∧ s6 = .int .i64 0 ∧ W1 = wr) (fun s6 si wr => 2 - (RowKit.intOf si).toNat)
  case atStart => exact ⟨0, rfl, by omega, rfl, rfl⟩
  case round =>
    obtain ⟨i, rfl, hi, rfl, rfl⟩ := hrel
    have h3 : i = 0 ∨ i = 1 ∨ i = 2 := by omega
    rcases h3 with rfl | rfl | rfl
    · go_wp2_with fail
      exact ⟨⟨1, rfl, by omega, rfl, trivial⟩, by simp [RowKit.intOf]⟩
    · go_wp2_with fail
      exact ⟨⟨2, rfl, by omega, rfl, trivial⟩, by simp [RowKit.intOf]⟩
    · go_wp2_with fail
      go_ret2
      exact ⟨rfl, HB.out⟩
theorem atoi_one (w : World) :
    Calls Tryz.prog 39 #[.string ⟨#[43, 48, 48]⟩] w fun e w' => e = .returned (.tuple #[.int .i64 0, Value.nilIface]) ∧ Below w.heap.size w w' := by
  have HF := Lib.hid (iatoi_one w)
  go_enter Tryz.func39, Tryz.ntmps39
  go_wp2_with (first | (go_at_call 54; refine HF.out.mono ?_; rintro e w1 ⟨rfl, hb⟩; have HB := Lib.hid hb; clear hb) | fail)
  go_ret2
  exact ⟨rfl, HB.out⟩
end Go.Proofs.YtdkbhliafilghaaGreatDoor
