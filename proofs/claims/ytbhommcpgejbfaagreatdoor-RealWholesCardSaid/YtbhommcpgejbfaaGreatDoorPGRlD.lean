/- strconv's shortest digits of 1.0, run. strconv's text of 1.0, run: the digits. -/
import Derived.Test.YtbhommcpgejbfaaGreatDoorPGRlF
import Derived.Test.YtbhommcpgejbfaaGreatDoorShelfR
import Derived.Lib.AppendIntMem
import Derived.Lib.ItoaLen
namespace Go.Proofs.YtbhommcpgejbfaaGreatDoor
section
open Go Go.ChangeShapes Go.WideShapes Go.RowKit
set_option linter.unusedVariables false
set_option linter.unusedSimpArgs false
set_option maxRecDepth 100000 in
theorem skewed_one (w : World) : Calls Tryz.prog 168 #[.int .i64 (-52)] w fun e w' => e = .returned (.int .i64 (-16)) ∧ w = w' := by
  go_enter Tryz.func168, Tryz.ntmps168
  go_wp2_with fail
  go_ret
  exact ⟨by simp, rfl⟩
set_option maxRecDepth 100000 in
theorem log2_one (w : World) : Calls Tryz.prog 151 #[.int .i64 16] w fun e w' => e = .returned (.int .i64 53) ∧ w = w' := by
  go_enter Tryz.func151, Tryz.ntmps151
  go_wp2_with fail
  go_ret
  exact ⟨by simp, rfl⟩
/-- The power table's place for 10^16. -/
structure PT (w : World) : Prop where
  hi : w.cell? ⟨13, 728, none⟩ = some (.int .u64 10240000000000000000)
  lo : w.cell? ⟨13, 729, none⟩ = some (.int .u64 0)
theorem PT.lt {w : World} (h : PT w) : 13 < w.heap.size := World.block_lt_of_cell? w ⟨13, 728, none⟩ h.hi
theorem PT.block {w w' : World} (h : PT w) (e : w'.heap[13]? = w.heap[13]?) : PT w' :=
  ⟨(World.cell?_of_block (a := ⟨13, 728, none⟩) e).trans h.hi, (World.cell?_of_block (a := ⟨13, 729, none⟩) e).trans h.lo⟩
theorem PT.keep {w w' : World} (h : PT w) (hb : Below w.heap.size w w') : PT w' := h.block (hb.block _ h.lt)
theorem PT.alloc {w : World} (h : PT w) (o : Obj) : PT (w.alloc o) := h.keep ((Below.refl _ _).alloc (Nat.le_refl _) _)
/-- A box of three cells. -/
structure Box3 (w : World) (B : Nat) (a b c : Value) : Prop where
  c0 : w.cell? ⟨B, 0, none⟩ = some a
  c1 : w.cell? ⟨B, 1, none⟩ = some b
  c2 : w.cell? ⟨B, 2, none⟩ = some c
  f0 : w.frozen? ⟨B, 0, none⟩ = false
  f1 : w.frozen? ⟨B, 1, none⟩ = false
  f2 : w.frozen? ⟨B, 2, none⟩ = false
theorem Box3.lt {w : World} {B : Nat} {a b c : Value} (h : Box3 w B a b c) : B < w.heap.size := World.block_lt_of_cell? w ⟨B, 0, none⟩ h.c0
theorem Box3.new (X : World) (a b c : Value) (T : TypeId) {B : Nat} (e : B = X.heap.size) : Box3 (X.alloc (.cells #[a, b, c] T)) B a b c := by
  subst e; exact ⟨by simp, by simp, by simp, by simp, by simp, by simp⟩
theorem Box3.keep {w w' : World} {B : Nat} {a b c : Value} (h : Box3 w B a b c) (hb : Below w.heap.size w w') : Box3 w' B a b c :=
  ⟨(World.cell?_of_block (a := ⟨B, 0, none⟩) (hb.block B h.lt)).trans h.c0, (World.cell?_of_block (a := ⟨B, 1, none⟩) (hb.block B h.lt)).trans h.c1, (World.cell?_of_block (a := ⟨B, 2, none⟩) (hb.block B h.lt)).trans h.c2,
    (World.frozen?_of_block (a := ⟨B, 0, none⟩) (hb.block B h.lt)).trans h.f0, (World.frozen?_of_block (a := ⟨B, 1, none⟩) (hb.block B h.lt)).trans h.f1, (World.frozen?_of_block (a := ⟨B, 2, none⟩) (hb.block B h.lt)).trans h.f2⟩
theorem Box3.put {w : World} {B : Nat} {a b c : Value} (x y z : Value) (h : Box3 w B a b c) : Box3 (((w.setCell ⟨B, 0, none⟩ x).setCell ⟨B, 1, none⟩ y).setCell ⟨B, 2, none⟩ z) B x y z :=
  ⟨(World.cell?_setCell_other _ _ _ _ (by simp)).trans ((World.cell?_setCell_other _ _ _ _ (by simp)).trans (World.cell?_setCell_same _ _ _ h.c0)),
    (World.cell?_setCell_other _ _ _ _ (by simp)).trans (World.cell?_setCell_same _ _ _ ((World.cell?_setCell_other _ _ _ _ (by simp)).trans h.c1)),
    World.cell?_setCell_same _ _ _ ((World.cell?_setCell_other _ _ _ _ (by simp)).trans ((World.cell?_setCell_other _ _ _ _ (by simp)).trans h.c2)), by simp [h.f0], by simp [h.f1], by simp [h.f2]⟩
theorem below3 {w : World} {B : Nat} (x y z : Value) : Below B w (((w.setCell ⟨B, 0, none⟩ x).setCell ⟨B, 1, none⟩ y).setCell ⟨B, 2, none⟩ z) := by
  refine Below.setCell (Below.setCell (Below.setCell (Below.refl _ _) ?_ _) ?_ _) ?_ _ <;> exact Nat.le_refl _
set_option maxRecDepth 100000 in
theorem prescale_one (X : Nat) (w : World) (a b c : Value) (hx : Box3 w X a b c) (ht : PT w) (hX : 13 < X) :
    Calls Tryz.prog 152 #[.pointer (some ⟨X, 0, none⟩), .int .i64 (-63), .int .i64 16, .int .i64 53] w fun e w' => e = .returned (.tuple #[]) ∧ Box3 w' X (.int .u64 10240000000000000000) (.int .u64 0) (.int .i64 7) ∧ Below X w w' := by
  have HX := Lib.hid hx
  obtain ⟨c0, c1, c2, f0, f1, f2⟩ := hx
  obtain ⟨t0, t1⟩ := ht
  have hn : ¬ X = 13 := by omega
  have hn' : ¬ 13 = X := by omega
  go_enter Tryz.func152, Tryz.ntmps152
  go_wp2_with fail
  refine bodyPost_end (v := .tuple #[]) (by simp [results, Tryz.results152, go_sem]) rfl ⟨rfl, HX.out.put _ _ _, ?_⟩
  exact below3 _ _ _
set_option maxRecDepth 100000 in
theorem bool2_any (b : Bool) (w : World) : Calls Tryz.prog 113 #[.bool b] w fun e w' => e = .returned (.int .u64 (if b then 1 else 0)) ∧ w = w' := by
  go_enter Tryz.func113, Tryz.ntmps113
  cases b
  · go_wp2_with fail
    go_ret
    exact ⟨rfl, rfl⟩
  · go_wp2_with fail
    go_ret
    exact ⟨rfl, rfl⟩
set_option maxRecDepth 100000 in
theorem uscale_min (X : Nat) (w : World) (hx : Box3 w X (.int .u64 10240000000000000000) (.int .u64 0) (.int .i64 7)) :
    Calls Tryz.prog 153 #[.int .u64 9223372036854775296, .pointer (some ⟨X, 0, none⟩)] w fun e w' => e = .returned (.int .u64 39999999999999997) ∧ w = w' := by
  obtain ⟨c0, c1, c2, f0, f1, f2⟩ := hx
  have hm : Calls Tryz.prog 101 #[.int .u64 9223372036854775296, .int .u64 10240000000000000000] w fun e w' => e = .returned (.tuple #[.int .u64 5119999999999999715, .int .u64 14442061007222210560]) ∧ w = w' := by
    refine (Tryz.bits_Mul64 9223372036854775296 10240000000000000000 (by omega) (by omega) w).mono ?_
    rintro e w' ⟨rfl, rfl⟩
    exact ⟨by simp, rfl⟩
  have HM := Lib.hid hm
  clear hm
  have e1 : ∀ W, (Op.shift .shr .u64 5119999999999999715 .i64 (bits BinOp.and .i64 7 63)).run Tryz.prog W = .ok (.int .u64 39999999999999997) W := fun W => rfl
  have e2 : ∀ W, (Op.shift .shl .u64 39999999999999997 .i64 (bits BinOp.and .i64 7 63)).run Tryz.prog W = .ok (.int .u64 5119999999999999616) W := fun W => rfl
  go_enter Tryz.func153, Tryz.ntmps153
  go_wp2_with (first | (go_at_call 101; refine HM.out.mono ?_; rintro e w9 ⟨rfl, rfl⟩) | fail)
  go_ret
  exact ⟨by simp [bits]; try decide, rfl⟩
set_option maxRecDepth 100000 in
theorem uscale_max (X : Nat) (w : World) (hx : Box3 w X (.int .u64 10240000000000000000) (.int .u64 0) (.int .i64 7)) :
    Calls Tryz.prog 153 #[.int .u64 9223372036854776832, .pointer (some ⟨X, 0, none⟩)] w fun e w' => e = .returned (.int .u64 40000000000000005) ∧ w = w' := by
  obtain ⟨c0, c1, c2, f0, f1, f2⟩ := hx
  have hm : Calls Tryz.prog 101 #[.int .u64 9223372036854776832, .int .u64 10240000000000000000] w fun e w' => e = .returned (.tuple #[.int .u64 5120000000000000568, .int .u64 8009366132974682112]) ∧ w = w' := by
    refine (Tryz.bits_Mul64 9223372036854776832 10240000000000000000 (by omega) (by omega) w).mono ?_
    rintro e w' ⟨rfl, rfl⟩
    exact ⟨by simp, rfl⟩
  have HM := Lib.hid hm
  clear hm
  have e1 : ∀ W, (Op.shift .shr .u64 5120000000000000568 .i64 (bits BinOp.and .i64 7 63)).run Tryz.prog W = .ok (.int .u64 40000000000000004) W := fun W => rfl
  have e2 : ∀ W, (Op.shift .shl .u64 40000000000000004 .i64 (bits BinOp.and .i64 7 63)).run Tryz.prog W = .ok (.int .u64 5120000000000000512) W := fun W => rfl
  go_enter Tryz.func153, Tryz.ntmps153
  go_wp2_with (first | (go_at_call 101; refine HM.out.mono ?_; rintro e w9 ⟨rfl, rfl⟩) | fail)
  go_ret
  exact ⟨by simp [bits]; try decide, rfl⟩
set_option maxRecDepth 100000 in
theorem nudge_one (w : World) : Calls Tryz.prog 169 #[.int .u64 39999999999999997, .int .i64 0] w fun e w' => e = .returned (.int .u64 39999999999999997) ∧ w = w' := by
  go_enter Tryz.func169, Tryz.ntmps169
  go_wp2_with fail
  go_ret
  exact ⟨by simp, rfl⟩
set_option maxRecDepth 100000 in
theorem nudgeb_one (w : World) : Calls Tryz.prog 169 #[.int .u64 40000000000000005, .int .i64 0] w fun e w' => e = .returned (.int .u64 40000000000000005) ∧ w = w' := by
  go_enter Tryz.func169, Tryz.ntmps169
  go_wp2_with fail
  go_ret
  exact ⟨by simp, rfl⟩
set_option maxRecDepth 100000 in
theorem ceil_one (w : World) : Calls Tryz.prog 170 #[.int .u64 39999999999999997] w fun e w' => e = .returned (.int .u64 10000000000000000) ∧ w = w' := by
  go_enter Tryz.func170, Tryz.ntmps170
  go_wp2_with fail
  go_ret
  exact ⟨by simp, rfl⟩
set_option maxRecDepth 100000 in
theorem floor_one (w : World) : Calls Tryz.prog 171 #[.int .u64 40000000000000005] w fun e w' => e = .returned (.int .u64 10000000000000001) ∧ w = w' := by
  go_enter Tryz.func171, Tryz.ntmps171
  go_wp2_with fail
  go_ret
  exact ⟨by simp, rfl⟩
set_option maxRecDepth 100000 in
theorem shortFloat_one (w : World) (ht : PT w) : Calls Tryz.prog 139 #[.int .u64 9223372036854775808, .int .i64 (-63)] w fun e w' => e = .returned (.tuple #[.int .u64 1000000000000000, .int .i64 (-15)]) ∧ Below w.heap.size w w' := by
  have hp := prescale_one w.heap.size (w.alloc (.cells #[.int .u64 0, .int .u64 0, .int .i64 0] 185)) _ _ _ (Box3.new w _ _ _ _ rfl) (ht.alloc _) ht.lt
  have HP := Lib.hid hp
  have HB0 := Lib.hid ((Below.refl w.heap.size w).alloc (Nat.le_refl _) (.cells #[.int .u64 0, .int .u64 0, .int .i64 0] 185))
  clear ht hp
  have e0 : bits BinOp.and .i64 4503599627370496 1 = 0 := by rfl
  go_enter Tryz.func139, Tryz.ntmps139
  go_wp2_with (first
    | (go_at_call 168; refine (skewed_one _).mono ?_; rintro e w9 ⟨rfl, rfl⟩)
    | (go_at_call 151; refine (log2_one _).mono ?_; rintro e w9 ⟨rfl, rfl⟩)
    | (go_at_call 152; refine HP.out.mono ?_; rintro e w2 ⟨rfl, hx, hb⟩; have HU := Lib.hid (uscale_min w.heap.size w2 hx); have HV := Lib.hid (uscale_max w.heap.size w2 hx); have HB := Lib.hid (HB0.out.trans hb); clear hx hb)
    | (go_at_call 153; first | (with_reducible refine HU.out.mono ?_; rintro e w9 ⟨rfl, rfl⟩) | (with_reducible refine HV.out.mono ?_; rintro e w9 ⟨rfl, rfl⟩))
    | (go_at_call 169; first | (with_reducible refine (nudge_one _).mono ?_; rintro e w9 ⟨rfl, rfl⟩) | (with_reducible refine (nudgeb_one _).mono ?_; rintro e w9 ⟨rfl, rfl⟩))
    | (go_at_call 170; refine (ceil_one _).mono ?_; rintro e w9 ⟨rfl, rfl⟩)
    | (go_at_call 171; refine (floor_one _).mono ?_; rintro e w9 ⟨rfl, rfl⟩)
    | fail)
  go_ret2
  exact ⟨by simp, HB.out⟩
end
section
open Go Go.ChangeShapes Go.WideShapes Go.RowKit Go.Sort Go.Lib
set_option linter.unusedVariables false
set_option linter.unusedSimpArgs false
def en8 (b : UInt8) : Value := .int .u8 (b.toNat : Int)
theorem below_putRow (w : World) (B : Nat) (d : Array UInt8) : Below B w (putRow (fun (b : UInt8) => Value.int .u8 (b.toNat : Int)) w B 0 d) := by
  refine ⟨rfl, ?_, rfl, by simp [putRow, mapBlock], fun g hg => ?_⟩
  · simp [putRow, mapBlock]
  · simp only [putRow, mapBlock, Array.getElem?_modify]
    rw [if_neg (by omega)]
/-- The sixteen digits of 10^15, cell by cell. -/
def Dg (w : World) (B : Nat) : Prop := ∀ j, j < 16 → w.cell? ⟨B, j, none⟩ = some (.int .u8 (if j = 0 then 49 else 48))
theorem dg_one (j : Nat) (hj : j < 16) : ((dg 1000000000000000 (16 - 1 - j)).toNat : Int) = if j = 0 then 49 else 48 := by
  have : ∀ j : Fin 16, ((dg 1000000000000000 (16 - 1 - j.val)).toNat : Int) = if j.val = 0 then 49 else 48 := by decide +kernel
  exact this ⟨j, hj⟩
/-- A row of sixteen noughts. -/
def No (w : World) (B : Nat) : Prop := ∀ j, j < 16 → w.cell? ⟨B, j, none⟩ = some (.int .u8 0) ∧ w.frozen? ⟨B, j, none⟩ = false
theorem format_one (B : Nat) (w : World) (h : No w B) :
    Calls Tryz.prog 89 #[.slice (some ⟨B, 0, none⟩) 16 32, .int .u64 1000000000000000] w fun e w' => e = .returned (.tuple #[]) ∧ Dg w' B ∧ Below B w w' := by
  have hH : Holds (fun (b : UInt8) => Value.int .u8 (b.toNat : Int)) w B 0 (Array.replicate 16 0) := fun j hj => by
    have hj' : j < 16 := by simpa using hj
    rw [Nat.zero_add]
    refine ⟨?_, (h j hj').2⟩
    rw [(h j hj').1, getElem!_pos _ j hj]
    simp
  have hf := Tryz.internal_strconv_formatBase10 B 0 32 1000000000000000 (Array.replicate 16 0) w hH (by rw [Array.size_replicate]; omega) (by omega) (by rw [Array.size_replicate]; omega)
  rw [Array.size_replicate] at hf
  refine hf.mono ?_
  rintro e w' ⟨rfl, n, v', dk, rfl, hF⟩
  refine ⟨rfl, fun j hj => ?_, below_drewN (below_putRow w B dk) n⟩
  rw [World.cell?_drewN]
  have h1 := cell?_putRow (fun (b : UInt8) => Value.int .u8 (b.toNat : Int)) w B 0 _ dk hH (by rw [hF.size, Array.size_replicate]) j (by rw [hF.size]; exact hj)
  rw [Nat.zero_add] at h1
  rw [h1, hF.done j (Nat.zero_le _) hj, dg_one j hj]
set_option maxRecDepth 100000 in
theorem setDigits_one (B : Nat) (w : World) (h : No w B) :
    Calls Tryz.prog 134 #[.slice (some ⟨B, 0, none⟩) 32 32, .int .u64 1000000000000000, .int .i64 (-15), .int .i64 16] w fun e w' => e = .returned (.tuple #[.int .i64 1, .int .i64 1]) ∧ w'.cell? ⟨B, 0, none⟩ = some (.int .u8 49) ∧ Below B w w' := by
  have HF := Lib.hid (format_one B w h)
  go_enter Tryz.func134, Tryz.ntmps134
  go_wp2_with (first | (go_at_call 89; refine HF.out.mono ?_; rintro e w1 ⟨rfl, hd, hb⟩; have HD := Lib.hid hd; have HB := Lib.hid hb; clear hd hb) | fail)
  go_loopw [3] (fun s3 wr => ∃ n : Nat, s3 = .int .i64 n ∧ 1 ≤ n ∧ n ≤ 16 ∧ w1 = wr) (fun s3 wr => (RowKit.intOf s3).toNat)
  case atStart => exact ⟨16, rfl, by omega, by omega, rfl⟩
  case round =>
    obtain ⟨n, rfl, h1, h2, rfl⟩ := hrel
    have hpos : (0 : Int) < (n : Int) := by omega
    have hle : (n : Int) ≤ 16 := by omega
    by_cases hn : n = 1
    · subst hn
      have c0 := HD.out 0 (by omega)
      have C0 := Lib.hid c0
      go_wp2_with fail
      go_ret2
      exact ⟨rfl, C0.out, HB.out⟩
    · have c0 := HD.out (n - 1) (by omega)
      rw [if_neg (by omega)] at c0
      obtain ⟨m, hm⟩ : ∃ m, n = m + 1 := ⟨n - 1, by omega⟩
      subst hm
      rw [Nat.add_sub_cancel] at c0
      go_wp2_with fail
      exact ⟨⟨m, rfl, by omega, by omega, trivial⟩, by simp [RowKit.intOf]⟩
end
end Go.Proofs.YtbhommcpgejbfaaGreatDoor
