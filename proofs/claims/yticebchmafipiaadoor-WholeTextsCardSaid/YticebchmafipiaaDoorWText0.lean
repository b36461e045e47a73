/- Layer 2: the text of a small number. -/
import Derived.Test.YticebchmafipiaaDoorWBuild
import Derived.Test.YticebchmafipiaaDoorWAddBad
namespace Go.Proofs.YticebchmafipiaaDoor
open Go.ChangeShapes Go.WideShapes Go.ChangeAt Go.RowKit
set_option linter.unusedVariables false
set_option linter.unusedSimpArgs false
set_option maxRecDepth 100000 in
set_option maxHeartbeats 400000 in
theorem formatUint_in (i : Nat) (h : i < 100) (w : World) :
    Calls Tryd.prog 50 #[.int .u64 (i : Int), .int .i64 10] w fun e w' => e = .returned (.string ⟨(Lib.decDigits i).toArray⟩) ∧ w = w' := by
  have hi : (i : Int) < 100 := by omega
  go_enter Tryd.func50, Tryd.ntmps50
  go_wp2_with fail
  refine (Tryd.internal_strconv_small i h _).mono ?_
  rintro e w' ⟨rfl, rfl⟩
  go_wp2_with fail
  go_ret
  exact ⟨rfl, rfl⟩
theorem formatUint_small (i : Nat) (h : i < 100) (w : World) :
    Calls Tryd.prog 32 #[.int .u64 (i : Int), .int .i64 10] w fun e w' => e = .returned (.string ⟨(Lib.decDigits i).toArray⟩) ∧ w = w' := by
  go_enter Tryd.func32, Tryd.ntmps32
  go_wp2_with fail
  refine (formatUint_in i h _).mono ?_
  rintro e w' ⟨rfl, rfl⟩
  go_wp2_with fail
  go_ret
  exact ⟨rfl, rfl⟩
def TextPost (W : World) (s : ByteArray) (e : Ending) (w' : World) : Prop := e = .returned (.string s) ∧ Below W.heap.size W w'
set_option maxRecDepth 100000 in
set_option maxHeartbeats 800000 in
theorem text_m4 (u : Value) (w : World) (hr : Rd w u [4]) :
    Calls Tryd.prog 10 #[.agg #[.bool true, u]] w (TextPost w ⟨#[45, 52]⟩) := by
  have HR := Lib.hid hr
  obtain ⟨p, c, rfl, _, _, hp⟩ := rd_form hr
  obtain ⟨b, off, rfl, hcell⟩ := hp (by simp)
  have hS : Sgn B18 true [(4 : Int)] (sg true 4) := by
    refine ⟨⟨fun i => ?_, fun _ => ?_⟩, fun _ => by simp, by simp [val]⟩
    · cases i with
      | zero => simp [B18]
      | succ i => simp [B18]
    · simp
  have HS := Lib.hid hS
  have hc0 := hcell 0 (by simp)
  simp only [List.length_singleton] at hr ⊢
  have e0 : ([(4 : Int)]).getD 0 0 = 4 := rfl
  rw [e0, Nat.add_zero] at hc0
  clear hcell hS hp e0
  go_enter Tryd.func10, Tryd.ntmps10
  go_wp2_with fail
  generalize hw2 : World.alloc w _ = w2
  have q0 : w2.cell? ⟨w.heap.size, 0, none⟩ = some (.bool true) := by rw [← hw2]; simp
  have q1 : w2.cell? ⟨w.heap.size, 1, none⟩ = some (.slice (some ⟨b, off, none⟩) 1 c) := by rw [← hw2]; simp
  have HB2 := Lib.hid (show Below w.heap.size w w2 by rw [← hw2]; exact (Below.refl _ _).alloc (Nat.le_refl _) _)
  clear hw2
  refine (good_yes _ _ [(4 : Int)] _ w2 (HR.out.keep HB2.out) HS.out (by simp)).mono ?_
  rintro e w3 ⟨rfl, hb3⟩
  have t0 := below_cell hb3 q0
  have t1 := below_cell hb3 q1
  have HB3 := Lib.hid (HB2.out.trans (hb3.mono HB2.out.size))
  have t2 := below_cell HB3.out hc0
  clear q0 q1 hb3 HB2 hc0
  go_wp2_with fail
  refine (formatUint_small 4 (by decide) _).mono ?_
  rintro e w4 ⟨rfl, rfl⟩
  rw [show (⟨(Lib.decDigits 4).toArray⟩ : ByteArray) = ⟨#[52]⟩ by simp [Lib.decDigits]]
  go_wp2_with fail
  refine (writeString_any w3.heap.size w3.heap.size [] ⟨#[45, 52]⟩ _ (Lib.fresh_isBuilder BT BE w3) (by decide) (by simp)).mono ?_
  rintro e w5 ⟨rfl, hBu, hb5⟩
  have HB5 := Lib.hid (HB3.out.trans (((Below.refl _ _).alloc (Nat.le_refl _) _).trans hb5 |>.mono HB3.out.size))
  have HBU := Lib.hid hBu
  have hs5 := hb5.size
  simp at hs5
  clear hBu hb5
  go_wp2_with fail
  go_loop [31] (fun s => s = .int .i64 0) (fun _ => 0)
  case atStart => rfl
  case round =>
    subst hrel
    go_wp2_with fail
    refine (Tryd.Builder_String_any w3.heap.size w3.heap.size [45, 52] w5 (.inr HBU.out) (by omega)).mono ?_
    rintro e w6 ⟨rfl, hb6⟩
    have HB6 := Lib.hid (HB5.out.trans (hb6.mono HB3.out.size))
    clear hb6
    go_wp2_with fail
    go_ret
    exact ⟨rfl, HB6.out⟩
set_option maxRecDepth 100000 in
set_option maxHeartbeats 800000 in
theorem text_1 (u : Value) (w : World) (hr : Rd w u [1]) :
    Calls Tryd.prog 10 #[.agg #[.bool false, u]] w (TextPost w ⟨#[49]⟩) := by
  have HR := Lib.hid hr
  obtain ⟨p, c, rfl, _, _, hp⟩ := rd_form hr
  obtain ⟨b, off, rfl, hcell⟩ := hp (by simp)
  have hS : Sgn B18 false [(1 : Int)] (sg false 1) := by
    refine ⟨⟨fun i => ?_, fun _ => ?_⟩, fun _ => by simp, by simp [val]⟩
    · cases i with
      | zero => simp [B18]
      | succ i => simp [B18]
    · simp
  have HS := Lib.hid hS
  have hc0 := hcell 0 (by simp)
  simp only [List.length_singleton] at hr ⊢
  have e0 : ([(1 : Int)]).getD 0 0 = 1 := rfl
  rw [e0, Nat.add_zero] at hc0
  clear hcell hS hp e0
  go_enter Tryd.func10, Tryd.ntmps10
  go_wp2_with fail
  generalize hw2 : World.alloc w _ = w2
  have q0 : w2.cell? ⟨w.heap.size, 0, none⟩ = some (.bool false) := by rw [← hw2]; simp
  have q1 : w2.cell? ⟨w.heap.size, 1, none⟩ = some (.slice (some ⟨b, off, none⟩) 1 c) := by rw [← hw2]; simp
  have HB2 := Lib.hid (show Below w.heap.size w w2 by rw [← hw2]; exact (Below.refl _ _).alloc (Nat.le_refl _) _)
  clear hw2
  refine (good_yes _ _ [(1 : Int)] _ w2 (HR.out.keep HB2.out) HS.out (by simp)).mono ?_
  rintro e w3 ⟨rfl, hb3⟩
  have t0 := below_cell hb3 q0
  have t1 := below_cell hb3 q1
  have HB3 := Lib.hid (HB2.out.trans (hb3.mono HB2.out.size))
  have t2 := below_cell HB3.out hc0
  clear q0 q1 hb3 HB2 hc0
  go_wp2_with fail
  refine (formatUint_small 1 (by decide) _).mono ?_
  rintro e w4 ⟨rfl, rfl⟩
  rw [show (⟨(Lib.decDigits 1).toArray⟩ : ByteArray) = ⟨#[49]⟩ by simp [Lib.decDigits]]
  go_wp2_with fail
  refine (writeString_any w3.heap.size w3.heap.size [] ⟨#[49]⟩ _ (Lib.fresh_isBuilder BT BE w3) (by decide) (by simp)).mono ?_
  rintro e w5 ⟨rfl, hBu, hb5⟩
  have HB5 := Lib.hid (HB3.out.trans (((Below.refl _ _).alloc (Nat.le_refl _) _).trans hb5 |>.mono HB3.out.size))
  have HBU := Lib.hid hBu
  have hs5 := hb5.size
  simp at hs5
  clear hBu hb5
  go_wp2_with fail
  go_loop [31] (fun s => s = .int .i64 0) (fun _ => 0)
  case atStart => rfl
  case round =>
    subst hrel
    go_wp2_with fail
    refine (Tryd.Builder_String_any w3.heap.size w3.heap.size [49] w5 (.inr HBU.out) (by omega)).mono ?_
    rintro e w6 ⟨rfl, hb6⟩
    have HB6 := Lib.hid (HB5.out.trans (hb6.mono HB3.out.size))
    clear hb6
    go_wp2_with fail
    go_ret
    exact ⟨rfl, HB6.out⟩
end Go.Proofs.YticebchmafipiaaDoor
