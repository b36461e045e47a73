/- strconv's text of 1.0, run: the digits. -/
import Derived.Test.YtdkbhliafilghaaGreatDoorRlS
import Derived.Lib.AppendIntMem
import Derived.Lib.ItoaLen
namespace Go.Proofs.YtdkbhliafilghaaGreatDoor
open Go Go.ChangeShapes Go.WideShapes Go.RowKit Go.Sort Go.Lib
set_option linter.unusedVariables false
set_option linter.unusedSimpArgs false
def en8 (b : UInt8) : Value := .int .u8 (b.toNat : Int)
theorem below_putRow (w : World) (B : Nat) (d : Array UInt8) : Below B w (putRow (fun (b : UInt8) => Value.int .u8 (b.toNat : Int)) w B 0 d) := by
  refine ⟨rfl, ?_, rfl, by simp [putRow, mapBlock], fun g hg => ?_⟩
  · simp [putRow, mapBlock]
  · simp only [putRow, mapBlock, Array.getElem?_modify]
    rw [if_neg (by omega)]
/-- The sixteen digits of 10^15, cell by cell. -/
def Dg (w : World) (B : Nat) : Prop := ∀ j, j < 16 → w.cell? ⟨B, j, none⟩ = some (.int .u8 (if j = 0 then 49 else 48))
theorem dg_one (j : Nat) (hj : j < 16) : ((dg 1000000000000000 (16 - 1 - j)).toNat : Int) = if j = 0 then 49 else 48 := by
  have : ∀ j : Fin 16, ((dg 1000000000000000 (16 - 1 - j.val)).toNat : Int) = if j.val = 0 then 49 else 48 := by decide +kernel
  exact this ⟨j, hj⟩
/-- A row of sixteen noughts. -/
def No (w : World) (B : Nat) : Prop := ∀ j, j < 16 → w.cell? ⟨B, j, none⟩ = some (.int .u8 0) ∧ w.frozen? ⟨B, j, none⟩ = false
theorem format_one (B : Nat) (w : World) (h : No w B) :
    Calls Tryz.prog 129 #[.slice (some ⟨B, 0, none⟩) 16 32, .int .u64 1000000000000000] w fun e w' => e = .returned (.tuple #[]) ∧ Dg w' B ∧ Below B w w' := by
  have hH : Holds (fun (b : UInt8) => Value.int .u8 (b.toNat : Int)) w B 0 (Array.replicate 16 0) := fun j hj => by
    have hj' : j < 16 := by simpa using hj
    rw [Nat.zero_add]
    refine ⟨?_, (h j hj').2⟩
    rw [(h j hj').1, getElem!_pos _ j hj]
    simp
  have hf := Tryz.internal_strconv_formatBase10 B 0 32 1000000000000000 (Array.replicate 16 0) w hH (by rw [Array.size_replicate]; omega) (by omega) (by rw [Array.size_replicate]; omega)
  rw [Array.size_replicate] at hf
  refine hf.mono ?_
  rintro e w' ⟨rfl, n, v', dk, rfl, hF⟩
  refine ⟨rfl, fun j hj => ?_, below_drewN (below_putRow w B dk) n⟩
  rw [World.cell?_drewN]
  have h1 := cell?_putRow (fun (b : UInt8) => Value.int .u8 (b.toNat : Int)) w B 0 _ dk hH (by rw [hF.size, Array.size_replicate]) j (by rw [hF.size]; exact hj)
  rw [Nat.zero_add] at h1
  rw [h1, hF.done j (Nat.zero_le _) hj, dg_one j hj]
set_option maxRecDepth 100000 in
theorem setDigits_one (B : Nat) (w : World) (h : No w B) :
    Calls Tryz.prog 88 #[.slice (some ⟨B, 0, none⟩) 32 32, .int .u64 1000000000000000, .int .i64 (-15), .int .i64 16] w fun e w' => e = .returned (.tuple #[.int .i64 1, .int .i64 1]) ∧ w'.cell? ⟨B, 0, none⟩ = some (.int .u8 49) ∧ Below B w w' := by
  have HF := Lib.hid (format_one B w h)
  go_enter Tryz.func88, Tryz.ntmps88
  go_wp2_with (first | (go_at_call 129; refine HF.out.mono ?_; rintro e w1 ⟨rfl, hd, hb⟩; have HD := Lib.hid hd; have HB := Lib.hid hb; clear hd hb) | fail)
  go_loopw [3] (fun s3 wr => ∃ n : Nat, s3 = .int .i64 n ∧ 1 ≤ n ∧ n ≤ 16 ∧ w1 = wr) (fun s3 wr => (RowKit.intOf s3).toNat)
  case atStart => exact ⟨16, rfl, by omega, by omega, rfl⟩
  case round =>
    obtain ⟨n, rfl, h1, h2, rfl⟩ := hrel
    have hpos : (0 : Int) < (n : Int) := by omega
    have hle : (n : Int) ≤ 16 := by omega
    by_cases hn : n = 1
    · subst hn
      have c0 := HD.out 0 (by omega)
      have C0 := Lib.hid c0
      go_wp2_with fail
      go_ret2
      exact ⟨rfl, C0.out, HB.out⟩
    · have c0 := HD.out (n - 1) (by omega)
      rw [if_neg (by omega)] at c0
      obtain ⟨m, hm⟩ : ∃ m, n = m + 1 := ⟨n - 1, by omega⟩
      subst hm
      rw [Nat.add_sub_cancel] at c0
      go_wp2_with fail
      exact ⟨⟨m, rfl, by omega, by omega, trivial⟩, by simp [RowKit.intOf]⟩
end Go.Proofs.YtdkbhliafilghaaGreatDoor
