/- strconv.ParseFloat at a numeral. -/
import Derived.Test.YtbhaigbgembcaaaGreatDoorPPiE
import Derived.Test.YtbhaigbgembcaaaGreatDoorShelfC
import Derived.Deep.RegionHeld3
import Derived.Lib.IfaceEq
namespace Go.Proofs.YtbhaigbgembcaaaGreatDoor
open Go Go.ChangeShapes Go.WideShapes Go.RowKit
set_option linter.unusedVariables false
set_option linter.unusedSimpArgs false
set_option maxRecDepth 100000 in
theorem pfpre_any (s : ByteArray) (F : Nat) (w : World) (h : AtP s F w) :
    Calls Tryz.prog 32 #[.string s, .int .i64 64] w fun r w' => (∃ v, r = .returned (.tuple #[.float .f64 F, .int .i64 ((s.size : Nat) : Int), v]) ∧ ErrV v) ∧ Below w.heap.size w w' := by
  unfold AtP at h
  have H := Lib.hid h
  clear h
  go_enter Tryz.func32, Tryz.ntmps32
  go_wp2_with (first
    | (go_at_call 46; (with_reducible refine H.out.mono ?_); rintro e w1 ⟨⟨v1, rfl, hv1⟩, hb1⟩; have HV1 := Lib.hid hv1; have HB1 := Lib.hid hb1; clear hv1 hb1)
    | fail)
  go_ret3
  exact ⟨⟨_, rfl, HV1.out⟩, HB1.out⟩
set_option maxRecDepth 100000 in
theorem ipf_any (s : ByteArray) (F : Nat) (w : World) (h : AtP s F w) :
    Calls Tryz.prog 19 #[.string s, .int .i64 64] w fun r w' => (∃ v, r = .returned (.tuple #[.float .f64 F, v]) ∧ ErrV v) ∧ Below w.heap.size w w' := by
  have H := Lib.hid (pfpre_any s F w h)
  clear h
  go_enter Tryz.func19, Tryz.ntmps19
  go_wp2_with (first
    | (go_at_call 32; (with_reducible refine H.out.mono ?_); rintro e w1 ⟨⟨v1, rfl, hv1⟩, hb1⟩; have HV1 := Lib.hid hv1; have HB1 := Lib.hid hb1; clear hv1 hb1)
    | fail)
  go_ret2
  exact ⟨⟨_, rfl, HV1.out⟩, HB1.out⟩
set_option maxRecDepth 100000 in
theorem range_any (a s : ByteArray) (hs : s.size ≤ 1000) (tv : TypeId) (yv : Value) (w : World) (he : w.cell? ⟨2, 0, none⟩ = some (.iface tv yv)) :
    Calls Tryz.prog 34 #[.string a, .string s] w fun r w' => (∃ q, r = .returned (.pointer (some q))) ∧ Below w.heap.size w w' := by
  have hl := World.block_lt_of_cell? w _ he
  have HC := Lib.hid (fun W => Tryz.stringslite_Clone s W (by omega))
  go_enter Tryz.func34, Tryz.ntmps34
  go_upto_region 1 with fail
  go_region_held3 (fun w' => w'.cell? ⟨2, 0, none⟩ = some (.iface tv yv))
    (first | go_keep | exact (hb1.cell (p := ⟨_, _, none⟩) hl).trans he)
    ((go_at_call 47; refine (HC.out _).mono ?_; rintro e w1 ⟨rfl, hb1⟩))
  have HB := Lib.hid (show Below w.heap.size w w1 from ⟨hb1.os, hb1.tape, hb1.output, hb1.size, hb1.block⟩)
  clear hb1 HC
  go_wp2_with fail
  go_ret
  exact ⟨⟨_, rfl⟩, HB.out.alloc HB.out.size _⟩
set_option maxRecDepth 100000 in
theorem toErr_any (a s : ByteArray) (hs : s.size ≤ 1000) (x y : Int) (tv : TypeId) (yv : Value) (w : World) (he : w.cell? ⟨2, 0, none⟩ = some (.iface tv yv)) :
    Calls Tryz.prog 20 #[.string a, .string s, .int .i64 x, .int .i64 y, .iface 58 (.int .i64 1)] w fun r w' => (∃ v, r = .returned v) ∧ Below w.heap.size w w' := by
  have HR := Lib.hid (range_any a s hs tv yv w he)
  clear he
  have hcm : (Tryz.prog.info? 58).map (·.comparable) = some true := by kernel_rfl
  have q12 : (binOp .eql 35 (.iface 58 (.int .i64 1)) (.iface 58 (.int .i64 2))).run Tryz.prog w = .ok (.bool false) w := Lib.run_eql_iface_int w 1 2 Tryz.underlying35 hcm Tryz.underlying58
  have q11 : (binOp .eql 35 (.iface 58 (.int .i64 1)) (.iface 58 (.int .i64 1))).run Tryz.prog w = .ok (.bool true) w := Lib.run_eql_iface_int w 1 1 Tryz.underlying35 hcm Tryz.underlying58
  clear hcm
  go_enter Tryz.func20, Tryz.ntmps20
  go_wp2_with (first
    | (go_at_call 34; (with_reducible refine HR.out.mono ?_); rintro e w1 ⟨⟨q1, rfl⟩, hb1⟩; have HB1 := Lib.hid hb1; clear hb1)
    | fail)
  go_ret
  exact ⟨⟨_, rfl⟩, HB1.out⟩
set_option maxRecDepth 100000 in
/-- strconv.ParseFloat of a text that atof64 reads. -/
theorem pf_any (s : ByteArray) (F : Nat) (hs : s.size ≤ 1000) (tv : TypeId) (yv : Value) (w : World) (h : AtP s F w) (hl : 2 < w.heap.size) (he : w.cell? ⟨2, 0, none⟩ = some (.iface tv yv)) :
    Calls Tryz.prog 10 #[.string s, .int .i64 64] w fun r w' => (∃ v, r = .returned (.tuple #[.float .f64 F, v])) ∧ Below w.heap.size w w' := by
  have H := Lib.hid (ipf_any s F w h)
  have HE := Lib.hid (fun W (hb : Below w.heap.size w W) => toErr_any ⟨#[80, 97, 114, 115, 101, 70, 108, 111, 97, 116]⟩ s hs 0 64 tv yv W ((hb.cell (p := ⟨_, _, none⟩) hl).trans he))
  clear h he
  go_enter Tryz.func10, Tryz.ntmps10
  go_upto_region 2 with (first
    | (go_at_call 19; (with_reducible refine H.out.mono ?_); rintro e w1 ⟨⟨v1, rfl, hv1⟩, hb1⟩; have HV1 := Lib.hid hv1; have HB1 := Lib.hid hb1; clear hv1 hb1)
    | fail)
  rcases HV1.out with hv | hv
  all_goals
    subst hv
    go_wp2_with (first
      | (go_at_call 20; (with_reducible refine (HE.out _ HB1.out).mono ?_); rintro e w2 ⟨⟨q1, rfl⟩, hb2⟩; have HB2 := Lib.hid (HB1.out.trans (hb2.mono HB1.out.size)); clear hb2)
      | fail)
    go_ret2
    first
      | exact ⟨⟨_, rfl⟩, HB2.out⟩
      | exact ⟨⟨_, rfl⟩, HB1.out⟩
end Go.Proofs.YtbhaigbgembcaaaGreatDoor
