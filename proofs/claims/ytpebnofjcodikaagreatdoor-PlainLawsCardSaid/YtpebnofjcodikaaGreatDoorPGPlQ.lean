/- Layer 15: the chapter's examples, run: a sum of a bool and an int; values made. Layer 15: the chapter's examples, run: a sum. Layer 15: the chapter's examples, run: a sum. Layer 15: the chapter's examples, run. Layer 15: the chapter's examples hold: every law of the layer asks it. Layer 15: values answered by an operator of one, by ToInt, by ToFloat; the same value twice. -/
import Derived.Test.YtpebnofjcodikaaGreatDoorPGPlM
import Derived.Test.YtpebnofjcodikaaGreatDoorPGWc
import Derived.Test.YtpebnofjcodikaaGreatDoorPGWf
import Derived.LoopTactic
import Derived.Test.YtpebnofjcodikaaGreatDoorPGRlF
namespace Go.Proofs.YtpebnofjcodikaaGreatDoor
section
open Go Go.ChangeShapes Go.WideShapes Go.ChangeAt Go.RowKit
set_option linter.unusedVariables false
set_option linter.unusedSimpArgs false
set_option maxRecDepth 100000 in
theorem rBool_any (w : World) : Calls Tryz.prog 11 #[.bool true] w fun e w' => e = .returned (.agg #[.int .i64 1, .bool true, .bool false, .slice none 0 0, .int .u64 0, .string ⟨#[]⟩, .slice none 0 0]) ∧ Below w.heap.size w w' := by
  go_enter Tryz.func11, Tryz.ntmps11
  go_wp2_with fail
  refine bodyPost_ret (v := .agg #[.int .i64 1, .bool true, .bool false, .slice none 0 0, .int .u64 0, .string ⟨#[]⟩, .slice none 0 0]) (by simp [results, Tryz.results11, go_sem]) rfl ⟨rfl, (Below.refl _ _).alloc (Nat.le_refl _) _⟩
set_option maxRecDepth 100000 in
theorem rStr_any (s : ByteArray) (w : World) : Calls Tryz.prog 15 #[.string s] w fun e w' => e = .returned (.agg #[.int .i64 4, .bool false, .bool false, .slice none 0 0, .int .u64 0, .string s, .slice none 0 0]) ∧ Below w.heap.size w w' := by
  go_enter Tryz.func15, Tryz.ntmps15
  go_wp2_with fail
  refine bodyPost_ret (v := .agg #[.int .i64 4, .bool false, .bool false, .slice none 0 0, .int .u64 0, .string s, .slice none 0 0]) (by simp [results, Tryz.results15, go_sem]) rfl ⟨rfl, (Below.refl _ _).alloc (Nat.le_refl _) _⟩
/-- An int made of a number. -/
def IntP (W : World) (z : Int) (e : Ending) (w' : World) : Prop :=
  ∃ n p c ws, e = .returned (.agg #[.int .i64 2, .bool false, .bool n, .slice p (List.length ws) c, .int .u64 0, .string ⟨#[]⟩, .slice none 0 0]) ∧ Rd w' (.slice p ws.length c) ws ∧ Sgn B18 n ws z ∧ ws.length ≤ 30 ∧ Below W.heap.size W w'
set_option maxRecDepth 100000 in
set_option maxHeartbeats 4000000 in
theorem rInt_any (m : Bool) (p : Option Addr) (c : Nat) (ds : List Int) (z : Int) (w : World) (hr : Rb w (.slice p ds.length c) ds) (hs : Sgn 10 m ds z) (hz : Small z) :
    Calls Tryz.prog 12 #[.agg #[.bool m, .slice p ds.length c]] w (IntP w z) := by
  obtain ⟨W1, hW1⟩ : ∃ x, (w.alloc (.cells #[.bool m, .slice p ds.length c] 40)).alloc (.cells #[.int .i64 0, .bool false, .bool false, .slice none 0 0, .int .u64 0, .string ⟨#[]⟩, .slice none 0 0] 28) = x := ⟨_, rfl⟩
  have HB1 := Lib.hid (show Below w.heap.size w W1 by rw [← hW1]; exact ((Below.refl _ _).alloc (Nat.le_refl _) _).alloc (by simp) _)
  have HX1 := Lib.hid (show Box2 W1 w.heap.size (.bool m) (.slice p ds.length c) by rw [← hW1]; exact (Box2.new _ _ _ _ rfl).alloc _)
  have HV1 := Lib.hid (show Bw7 W1 (w.heap.size + 1) (.int .i64 0) (.bool false) (.bool false) (.slice none 0 0) (.int .u64 0) (.string ⟨#[]⟩) (.slice none 0 0) by rw [← hW1]; exact Bw7.new _ _ _ _ _ _ _ _ _ (by simp))
  have HR := Lib.hid (hr.keep HB1.out)
  have HT := Lib.hid (to_any m _ ds z W1 HR.out hs (by have := hs.fits.2 hz; omega))
  have HZ := Lib.hid hz
  clear hr hs hz
  have c0 := HX1.out.c0
  have c1 := HX1.out.c1
  go_enter Tryz.func12, Tryz.ntmps12
  go_wp2_with fail
  (try rw [hW1])
  clear hW1
  refine HT.out.mono ?_
  rintro e w2 ⟨n2, u2, ws, rfl, hM2, hS2, hB2⟩
  obtain ⟨p2, k2, rfl⟩ := MU.form hM2
  have hl2 := hS2.small.2 HZ.out
  have HB2 := Lib.hid (HB1.out.trans (hB2.mono HB1.out.size))
  have HV2 := Lib.hid (HV1.out.keep hB2)
  have HM2 := Lib.hid hM2
  have HS2 := Lib.hid hS2
  have HL2 := Lib.hid hl2
  have HLT := Lib.hid (World.block_lt_of_cell? _ _ HV1.out.b.c0)
  clear hM2 hS2 hB2 c0 c1 hl2
  have v0 := HV2.out.b.c0
  have v1 := HV2.out.b.c1
  have v2 := HV2.out.b.c2
  have v3 := HV2.out.b.c3
  have v4 := HV2.out.b.c4
  have v5 := HV2.out.b.c5
  have v6 := HV2.out.b.c6
  have f0 := HV2.out.f0
  have f1 := HV2.out.f1
  have f2 := HV2.out.f2
  have f3 := HV2.out.f3
  have f4 := HV2.out.f4
  have f5 := HV2.out.f5
  have f6 := HV2.out.f6
  go_wp2_with fail
  have z7 := put7_bx HV2.out.b (.int .i64 2) (.bool false) (.bool n2) (.slice p2 ws.length k2) (.int .u64 0) (.string ⟨#[]⟩) (.slice none 0 0)
  have zm := put7_mu HM2.out HLT.out (.int .i64 2) (.bool false) (.bool n2) (.slice p2 ws.length k2) (.int .u64 0) (.string ⟨#[]⟩) (.slice none 0 0)
  have zb := put7_below HB2.out (show w.heap.size ≤ w.heap.size + 1 by omega) (.int .i64 2) (.bool false) (.bool n2) (.slice p2 ws.length k2) (.int .u64 0) (.string ⟨#[]⟩) (.slice none 0 0)
  unfold put7 at z7 zm zb
  refine bodyPost_ret (v := .agg #[.int .i64 2, .bool false, .bool n2, .slice p2 ws.length k2, .int .u64 0, .string ⟨#[]⟩, .slice none 0 0]) (by simp [results, Tryz.results12, go_sem, z7.c0, z7.c1, z7.c2, z7.c3, z7.c4, z7.c5, z7.c6]) rfl ⟨n2, p2, k2, ws, rfl, zm.rd (by have := HL2.out; omega), HS2.out, HL2.out, zb⟩
set_option maxRecDepth 100000 in
set_option maxHeartbeats 4000000 in
theorem ints_ok (n : Bool) (p : Option Addr) (l c : Nat) (w : World) :
    Calls Tryz.prog 29 #[.agg #[.bool n, .slice p l c], .int .i64 0] w fun e w' => e = .returned (.tuple #[.agg #[.int .i64 2, .bool false, .bool n, .slice p l c, .int .u64 0, .string ⟨#[]⟩, .slice none 0 0], .int .i64 0]) ∧ Below w.heap.size w w' := by
  have HB := Lib.hid (show ∀ x : Obj, Below w.heap.size w ((w.alloc (.cells #[.bool n, .slice p l c] 24)).alloc x) from fun x => ((Below.refl _ _).alloc (Nat.le_refl _) _).alloc (by simp) _)
  go_enter Tryz.func29, Tryz.ntmps29
  go_wp2_with fail
  refine bodyPost_ret (v := .tuple #[.agg #[.int .i64 2, .bool false, .bool n, .slice p l c, .int .u64 0, .string ⟨#[]⟩, .slice none 0 0], .int .i64 0]) (by simp [results, Tryz.results29, go_sem]) rfl ⟨rfl, HB.out _⟩
end
section
open Go Go.ChangeShapes Go.WideShapes Go.ChangeAt Go.RowKit
set_option linter.unusedVariables false
set_option linter.unusedSimpArgs false
/-- An int, and no error. -/
def SumP (W : World) (B0 : Nat) (z : Int) (e : Ending) (w' : World) : Prop :=
  ∃ n p c ws, e = .returned (.tuple #[.agg #[.int .i64 2, .bool false, .bool n, .slice p (List.length ws) c, .int .u64 0, .string ⟨#[]⟩, .slice none 0 0], .int .i64 0]) ∧ MU w' B0 (.slice p ws.length c) ws ∧ Sgn B18 n ws z ∧ ws.length ≤ 30 ∧ Below W.heap.size W w'
set_option maxRecDepth 100000 in
set_option maxHeartbeats 4000000 in
theorem binWhole_add (n1 : Bool) (u1 : Value) (xs : List Int) (z1 : Int) (n2' : Bool) (u2 : Value) (ys : List Int) (z2 : Int) (w : World) (hr1 : Rd w u1 xs) (hr2 : Rd w u2 ys) (hs1 : Sgn B18 n1 xs z1) (hs2 : Sgn B18 n2' ys z2) (hl1 : xs.length ≤ 30) (hl2 : ys.length ≤ 30) (hz : Small (z1 + z2)) :
    Calls Tryz.prog 21 #[.int .i64 1, .agg #[.bool n1, u1], .agg #[.bool n2', u2]] w (SumP w w.heap.size (z1 + z2)) := by
  obtain ⟨pA, cA, rfl, hcA, hmA, hpA⟩ := rd_form hr1
  obtain ⟨pB, cB, rfl, hcB, hmB, hpB⟩ := rd_form hr2
  obtain ⟨W1, hW1⟩ : ∃ x, ((w.alloc (.cells #[.bool n1, .slice pA xs.length cA] 24)).alloc (.cells #[.bool n2', .slice pB ys.length cB] 24)).alloc (.cells #[.int .i64 0, .bool false, .bool false, .slice none 0 0, .int .u64 0, .string ⟨#[]⟩, .slice none 0 0] 28) = x := ⟨_, rfl⟩
  have HB1 := Lib.hid (show Below w.heap.size w W1 by rw [← hW1]; exact (((Below.refl _ _).alloc (Nat.le_refl _) _).alloc (by simp) _).alloc (by simp; omega) _)
  have HXA := Lib.hid (show Box2 W1 w.heap.size (.bool n1) (.slice pA xs.length cA) by rw [← hW1]; exact ((Box2.new _ _ _ _ rfl).alloc _).alloc _)
  have HXB := Lib.hid (show Box2 W1 (w.heap.size + 1) (.bool n2') (.slice pB ys.length cB) by rw [← hW1]; exact (Box2.new _ _ _ _ (by simp)).alloc _)
  have HV1 := Lib.hid (show Bw7 W1 (w.heap.size + 2) (.int .i64 0) (.bool false) (.bool false) (.slice none 0 0) (.int .u64 0) (.string ⟨#[]⟩) (.slice none 0 0) by rw [← hW1]; exact Bw7.new _ _ _ _ _ _ _ _ _ (by simp))
  have HLT := Lib.hid (World.block_lt_of_cell? _ _ HV1.out.b.c0)
  have HA := Lib.hid (add_good n1 _ xs z1 n2' _ ys z2 W1 (hr1.keep HB1.out) (hr2.keep HB1.out) hs1 hs2 hl1 hl2)
  have HZ := Lib.hid hz
  clear hr1 hr2 hs1 hs2 hl1 hl2 hz hpA hpB
  have a0 := HXA.out.c0
  have a1 := HXA.out.c1
  have d0 := HXB.out.c0
  have d1 := HXB.out.c1
  go_enter Tryz.func21, Tryz.ntmps21
  go_wp2_with fail
  (try rw [hW1])
  clear hW1
  refine HA.out.mono ?_
  rintro e w2 ⟨n2, u2, ws, er, rfl, hM2, hB2, hC2⟩
  have hC2' : ResCase (z1 + z2) n2 ws er := hC2
  obtain rfl := hC2'.er0 HZ.out
  have HS2 := Lib.hid hC2'.ok
  obtain ⟨p2, k2, rfl⟩ := MU.form hM2
  have HL2 := Lib.hid (HS2.out.small.2 HZ.out)
  have HB2 := Lib.hid (HB1.out.trans (hB2.mono HB1.out.size))
  have HV2 := Lib.hid (HV1.out.keep hB2)
  have HM2 := Lib.hid hM2
  clear hM2 hB2 hC2 hC2' a0 a1 d0 d1
  go_wp2_with fail
  refine (ints_ok n2 p2 ws.length k2 w2).mono ?_
  rintro e w3 ⟨rfl, hB3⟩
  have HB3 := Lib.hid (HB2.out.trans (hB3.mono HB2.out.size))
  have HV3 := Lib.hid (HV2.out.keep hB3)
  have HM3 := Lib.hid (HM2.out.keep hB3)
  clear hB3
  have vc0 := HV3.out.b.c0
  have vf0 := HV3.out.f0
  have vc1 := HV3.out.b.c1
  have vf1 := HV3.out.f1
  have vc2 := HV3.out.b.c2
  have vf2 := HV3.out.f2
  have vc3 := HV3.out.b.c3
  have vf3 := HV3.out.f3
  have vc4 := HV3.out.b.c4
  have vf4 := HV3.out.f4
  have vc5 := HV3.out.b.c5
  have vf5 := HV3.out.f5
  have vc6 := HV3.out.b.c6
  have vf6 := HV3.out.f6
  go_wp2_with fail
  have z7 := put7_bx HV3.out.b (.int .i64 2) (.bool false) (.bool n2) (.slice p2 ws.length k2) (.int .u64 0) (.string ⟨#[]⟩) (.slice none 0 0)
  have zm := put7_mu HM3.out HLT.out (.int .i64 2) (.bool false) (.bool n2) (.slice p2 ws.length k2) (.int .u64 0) (.string ⟨#[]⟩) (.slice none 0 0)
  have zb := put7_below HB3.out (show w.heap.size ≤ w.heap.size + 2 by omega) (.int .i64 2) (.bool false) (.bool n2) (.slice p2 ws.length k2) (.int .u64 0) (.string ⟨#[]⟩) (.slice none 0 0)
  unfold put7 at z7 zm zb
  refine bodyPost_ret (v := .tuple #[.agg #[.int .i64 2, .bool false, .bool n2, .slice p2 ws.length k2, .int .u64 0, .string ⟨#[]⟩, .slice none 0 0], .int .i64 0]) (by simp [results, Tryz.results21, go_sem, z7.c0, z7.c1, z7.c2, z7.c3, z7.c4, z7.c5, z7.c6]) rfl ⟨n2, p2, k2, ws, rfl, zm.low (by have := HB1.out.size; omega), HS2.out, HL2.out, zb⟩
end
section
open Go Go.ChangeShapes Go.WideShapes Go.ChangeAt Go.RowKit
set_option linter.unusedVariables false
set_option linter.unusedSimpArgs false
set_option maxRecDepth 100000 in
set_option maxHeartbeats 8000000 in
theorem bin_add (kA : Int) (yA nA : Bool) (uA : Value) (sA : List Int) (bA : Nat) (xA : ByteArray) (pAi : Option Addr) (mA cAi : Nat) (kB : Int) (yB nB : Bool) (uB : Value) (sB : List Int) (bB : Nat) (xB : ByteArray) (pBi : Option Addr) (mB cBi : Nat) (w : World) (hrA : Rd w uA sA) (hrB : Rd w uB sB) (hfA : Fit sA) (hfB : Fit sB) (hbA : bA < 18446744073709551616) (hbB : bB < 18446744073709551616) (hmA0 : (mA : Int) ≤ 9223372036854775807) (hmB0 : (mB : Int) ≤ 9223372036854775807) (hxA : (xA.size : Int) ≤ 9223372036854775807) (hxB : (xB.size : Int) ≤ 9223372036854775807) (hgA : goodP kA yA nA sA bA xA mA = true) (hgB : goodP kB yB nB sB bB xB mB = true) (hwA : wholeP kA = true) (hwB : wholeP kB = true) (hsum : Small (zP kA yA nA sA + zP kB yB nB sB)) :
    Calls Tryz.prog 5 #[.int .i64 1, .agg #[.int .i64 kA, .bool yA, .bool nA, uA, .int .u64 (bA : Int), .string xA, .slice pAi mA cAi], .agg #[.int .i64 kB, .bool yB, .bool nB, uB, .int .u64 (bB : Int), .string xB, .slice pBi mB cBi]] w fun e w' => ∃ n p c ws, e = .returned (.tuple #[.agg #[.int .i64 2, .bool false, .bool n, .slice p (List.length ws) c, .int .u64 0, .string ⟨#[]⟩, .slice none 0 0], .int .i64 0]) ∧ Rd w' (.slice p ws.length c) ws ∧ Sgn B18 n ws (zP kA yA nA sA + zP kB yB nB sB) ∧ ws.length ≤ 30 ∧ Below w.heap.size w w' := by
  obtain ⟨pA, cA, rfl, hcA, hmA, hpA⟩ := rd_form hrA
  obtain ⟨pB, cB, rfl, hcB, hmB, hpB⟩ := rd_form hrB
  obtain ⟨W1, hW1⟩ : ∃ x, ((w.alloc (.cells #[.int .i64 kA, .bool yA, .bool nA, .slice pA sA.length cA, .int .u64 (bA : Int), .string xA, .slice pAi mA cAi] 28)).alloc (.cells #[.int .i64 kB, .bool yB, .bool nB, .slice pB sB.length cB, .int .u64 (bB : Int), .string xB, .slice pBi mB cBi] 28)).alloc (.cells #[.int .i64 0, .bool false, .bool false, .slice none 0 0, .int .u64 0, .string ⟨#[]⟩, .slice none 0 0] 28) = x := ⟨_, rfl⟩
  have HB1 := Lib.hid (show Below w.heap.size w W1 by rw [← hW1]; exact (((Below.refl _ _).alloc (Nat.le_refl _) _).alloc (by simp) _).alloc (by simp; omega) _)
  have HXA := Lib.hid (show Bx7 W1 (w.heap.size) (.int .i64 kA) (.bool yA) (.bool nA) (.slice pA sA.length cA) (.int .u64 (bA : Int)) (.string xA) (.slice pAi mA cAi) by rw [← hW1]; exact ((Bx7.new w _ _ _ _ _ _ _ _ rfl).keep ((Below.refl _ _).alloc (Nat.le_refl _) _)).keep ((Below.refl _ _).alloc (Nat.le_refl _) _))
  have HXB := Lib.hid (show Bx7 W1 (w.heap.size + 1) (.int .i64 kB) (.bool yB) (.bool nB) (.slice pB sB.length cB) (.int .u64 (bB : Int)) (.string xB) (.slice pBi mB cBi) by rw [← hW1]; exact (Bx7.new _ _ _ _ _ _ _ _ _ (by simp)).keep ((Below.refl _ _).alloc (Nat.le_refl _) _))
  have HV1 := Lib.hid (show Bw7 W1 (w.heap.size + 2) (.int .i64 0) (.bool false) (.bool false) (.slice none 0 0) (.int .u64 0) (.string ⟨#[]⟩) (.slice none 0 0) by rw [← hW1]; exact Bw7.new _ _ _ _ _ _ _ _ _ (by simp))
  have HLT := Lib.hid (World.block_lt_of_cell? _ _ HV1.out.b.c0)
  have HRA := Lib.hid (hrA.keep HB1.out)
  have HRB := Lib.hid (hrB.keep HB1.out)
  have HGA := Lib.hid (fun (W : World) (hx : Below W1.heap.size W1 W) => good15_any kA yA nA _ sA bA xA pAi mA cAi W hbA (HRA.out.keep hx) hfA hmA0 hxA)
  have HGB := Lib.hid (fun (W : World) (hx : Below W1.heap.size W1 W) => good15_any kB yB nB _ sB bB xB pBi mB cBi W hbB (HRB.out.keep hx) hfB hmB0 hxB)
  have HNA := Lib.hid (fun (W : World) => isWhole_any kA yA nA (.slice pA sA.length cA) bA xA (.slice pAi mA cAi) W)
  have HNB := Lib.hid (fun (W : World) => isWhole_any kB yB nB (.slice pB sB.length cB) bB xB (.slice pBi mB cBi) W)
  have CA := Lib.hid (fun (wx : World) (hx : Below W1.heap.size W1 wx) => toBig_any kA yA nA _ sA bA xA (.slice pAi mA cAi) wx (HRA.out.keep hx) hfA (good_k2 hgA))
  have CB := Lib.hid (fun (wx : World) (hx : Below W1.heap.size W1 wx) => toBig_any kB yB nB _ sB bB xB (.slice pBi mB cBi) wx (HRB.out.keep hx) hfB (good_k2 hgB))
  rw [hgA] at HGA
  rw [hgB] at HGB
  rw [hwA] at HNA
  rw [hwB] at HNB
  have HSU := Lib.hid hsum
  have hb0 := Below.refl W1.heap.size W1
  obtain ⟨zA, hzA⟩ : ∃ z, zP kA yA nA sA = z := ⟨_, rfl⟩
  obtain ⟨zB, hzB⟩ : ∃ z, zP kB yB nB sB = z := ⟨_, rfl⟩
  rw [hzA] at CA HSU ⊢
  rw [hzB] at CB HSU ⊢
  have a0 := HXA.out.c0
  have a1 := HXA.out.c1
  have a2 := HXA.out.c2
  have a3 := HXA.out.c3
  have a4 := HXA.out.c4
  have a5 := HXA.out.c5
  have a6 := HXA.out.c6
  have d0 := HXB.out.c0
  have d1 := HXB.out.c1
  have d2 := HXB.out.c2
  have d3 := HXB.out.c3
  have d4 := HXB.out.c4
  have d5 := HXB.out.c5
  have d6 := HXB.out.c6
  clear hrA hrB hfA hfB hpA hpB hbA hbB hgA hgB hwA hwB hsum hzA hzB
  go_enter Tryz.func5, Tryz.ntmps5
  go_upto_region 6 with (first
    | (go_at_call 19; (with_reducible refine (HGA.out _ hb0).mono ?_); rintro e v1 ⟨rfl, hvv⟩; have hb1 : Below W1.heap.size W1 v1 := hb0.trans (hvv.mono hb0.size); have fa0 := below_cell hvv a0; have fa1 := below_cell hvv a1; have fa2 := below_cell hvv a2; have fa3 := below_cell hvv a3; have fa4 := below_cell hvv a4; have fa5 := below_cell hvv a5; have fa6 := below_cell hvv a6; have fd0 := below_cell hvv d0; have fd1 := below_cell hvv d1; have fd2 := below_cell hvv d2; have fd3 := below_cell hvv d3; have fd4 := below_cell hvv d4; have fd5 := below_cell hvv d5; have fd6 := below_cell hvv d6; clear hvv)
    | (go_at_call 19; (with_reducible refine (HGB.out _ hb1).mono ?_); rintro e v2 ⟨rfl, hvv⟩; have hb2 : Below W1.heap.size W1 v2 := hb1.trans (hvv.mono hb1.size); have ga0 := below_cell hvv fa0; have ga1 := below_cell hvv fa1; have ga2 := below_cell hvv fa2; have ga3 := below_cell hvv fa3; have ga4 := below_cell hvv fa4; have ga5 := below_cell hvv fa5; have ga6 := below_cell hvv fa6; have gd0 := below_cell hvv fd0; have gd1 := below_cell hvv fd1; have gd2 := below_cell hvv fd2; have gd3 := below_cell hvv fd3; have gd4 := below_cell hvv fd4; have gd5 := below_cell hvv fd5; have gd6 := below_cell hvv fd6; clear hvv)
    | (go_at_call 20; (with_reducible refine (HNA.out _).mono ?_); rintro e v3 ⟨rfl, hvv⟩; have hb3 : Below W1.heap.size W1 v3 := hb2.trans (hvv.mono hb2.size); have ka0 := below_cell hvv ga0; have ka1 := below_cell hvv ga1; have ka2 := below_cell hvv ga2; have ka3 := below_cell hvv ga3; have ka4 := below_cell hvv ga4; have ka5 := below_cell hvv ga5; have ka6 := below_cell hvv ga6; have kd0 := below_cell hvv gd0; have kd1 := below_cell hvv gd1; have kd2 := below_cell hvv gd2; have kd3 := below_cell hvv gd3; have kd4 := below_cell hvv gd4; have kd5 := below_cell hvv gd5; have kd6 := below_cell hvv gd6; clear hvv)
    | (go_at_call 20; (with_reducible refine (HNB.out _).mono ?_); rintro e v4 ⟨rfl, hvv⟩; have hb4 : Below W1.heap.size W1 v4 := hb3.trans (hvv.mono hb3.size); have ja0 := below_cell hvv ka0; have ja1 := below_cell hvv ka1; have ja2 := below_cell hvv ka2; have ja3 := below_cell hvv ka3; have ja4 := below_cell hvv ka4; have ja5 := below_cell hvv ka5; have ja6 := below_cell hvv ka6; have jd0 := below_cell hvv kd0; have jd1 := below_cell hvv kd1; have jd2 := below_cell hvv kd2; have jd3 := below_cell hvv kd3; have jd4 := below_cell hvv kd4; have jd5 := below_cell hvv kd5; have jd6 := below_cell hvv kd6; clear hvv)
    | fail)
  have HVv := Lib.hid (HV1.out.keep hb4)
  have vc0 := HVv.out.b.c0
  have vf0 := HVv.out.f0
  have vc1 := HVv.out.b.c1
  have vf1 := HVv.out.f1
  have vc2 := HVv.out.b.c2
  have vf2 := HVv.out.f2
  have vc3 := HVv.out.b.c3
  have vf3 := HVv.out.f3
  have vc4 := HVv.out.b.c4
  have vf4 := HVv.out.f4
  have vc5 := HVv.out.b.c5
  have vf5 := HVv.out.f5
  have vc6 := HVv.out.b.c6
  have vf6 := HVv.out.f6
  have HLE := Lib.hid hb4.size
  go_region_held3 (fun w' => w'.cell? ⟨w.heap.size, 0, none⟩ = some (.int .i64 kA) ∧ w'.cell? ⟨w.heap.size, 1, none⟩ = some (.bool yA) ∧ w'.cell? ⟨w.heap.size, 2, none⟩ = some (.bool nA) ∧ w'.cell? ⟨w.heap.size, 3, none⟩ = some (.slice pA sA.length cA) ∧ w'.cell? ⟨w.heap.size, 4, none⟩ = some (.int .u64 (bA : Int)) ∧ w'.cell? ⟨w.heap.size, 5, none⟩ = some (.string xA) ∧ w'.cell? ⟨w.heap.size, 6, none⟩ = some (.slice pAi mA cAi) ∧ w'.cell? ⟨w.heap.size + 1, 0, none⟩ = some (.int .i64 kB) ∧ w'.cell? ⟨w.heap.size + 1, 1, none⟩ = some (.bool yB) ∧ w'.cell? ⟨w.heap.size + 1, 2, none⟩ = some (.bool nB) ∧ w'.cell? ⟨w.heap.size + 1, 3, none⟩ = some (.slice pB sB.length cB) ∧ w'.cell? ⟨w.heap.size + 1, 4, none⟩ = some (.int .u64 (bB : Int)) ∧ w'.cell? ⟨w.heap.size + 1, 5, none⟩ = some (.string xB) ∧ w'.cell? ⟨w.heap.size + 1, 6, none⟩ = some (.slice pBi mB cBi))
    (first | ((repeat' (first | with_reducible assumption | apply And.intro | with_reducible refine drew_cell ?_)); done) | ((with_reducible refine put7_two (B := w.heap.size + 2) (A := w.heap.size) (D := w.heap.size + 1) ?_ (by omega) (by omega) _ _ _ _ _ _ _); ((repeat' (first | with_reducible assumption | apply And.intro)); done)) | fail)
    (first
     | (go_at_call 22; (with_reducible refine (CA.out _ (by ((repeat' (first | with_reducible assumption | with_reducible exact Below.refl _ _ | with_reducible refine Below.drew ?_ | with_reducible refine Below.alloc ?_ (by first | omega | (simp; omega) | (simp; done) | fail) _ | with_reducible refine Below.setCell ?_ (by first | omega | (simp; omega) | (simp; done) | fail) _ | fail)); (first | done | fail)))).mono ?_); rintro e v5 ⟨nA1, pA1, cA1, wA1, rfl, hRn, hSn, hLn, hvv⟩; have hbv5 : Below W1.heap.size W1 v5 := hb4.trans (Below.mono (Below.trans (drewM (Below.refl v4.heap.size v4)) hvv) hb4.size); have ma0 := below_cell hvv ja0; have ma1 := below_cell hvv ja1; have ma2 := below_cell hvv ja2; have ma3 := below_cell hvv ja3; have ma4 := below_cell hvv ja4; have ma5 := below_cell hvv ja5; have ma6 := below_cell hvv ja6; have md0 := below_cell hvv jd0; have md1 := below_cell hvv jd1; have md2 := below_cell hvv jd2; have md3 := below_cell hvv jd3; have md4 := below_cell hvv jd4; have md5 := below_cell hvv jd5; have md6 := below_cell hvv jd6; have RNA1 := Lib.hid hRn; have SNA1 := Lib.hid hSn; have LNA1 := Lib.hid hLn; have HVa := Lib.hid (HVv.out.keep (Below.trans (drewM (Below.refl v4.heap.size v4)) hvv)); have HVVv5 := Lib.hid hvv; clear hvv hRn hSn hLn)
     | (go_at_call 22; (with_reducible refine (CB.out _ (by ((repeat' (first | with_reducible assumption | with_reducible exact Below.refl _ _ | with_reducible refine Below.drew ?_ | with_reducible refine Below.alloc ?_ (by first | omega | (simp; omega) | (simp; done) | fail) _ | with_reducible refine Below.setCell ?_ (by first | omega | (simp; omega) | (simp; done) | fail) _ | fail)); (first | done | fail)))).mono ?_); rintro e v6 ⟨nB1, pB1, cB1, wB1, rfl, hRn, hSn, hLn, hvv⟩; have hbv6 : Below W1.heap.size W1 v6 := hbv5.trans (hvv.mono hbv5.size); have qa0 := below_cell hvv ma0; have qa1 := below_cell hvv ma1; have qa2 := below_cell hvv ma2; have qa3 := below_cell hvv ma3; have qa4 := below_cell hvv ma4; have qa5 := below_cell hvv ma5; have qa6 := below_cell hvv ma6; have qd0 := below_cell hvv md0; have qd1 := below_cell hvv md1; have qd2 := below_cell hvv md2; have qd3 := below_cell hvv md3; have qd4 := below_cell hvv md4; have qd5 := below_cell hvv md5; have qd6 := below_cell hvv md6; have RNB1 := Lib.hid hRn; have SNB1 := Lib.hid hSn; have LNB1 := Lib.hid hLn; have HVb := Lib.hid (HVa.out.keep hvv); have RNA2 := Lib.hid (RNA1.out.keep hvv); have HVVv6 := Lib.hid hvv; clear hvv hRn hSn hLn)
     | (go_at_call 21; (with_reducible refine (binWhole_add nA1 _ wA1 zA nB1 _ wB1 zB v6 RNA2.out RNB1.out SNA1.out SNB1.out LNA1.out LNB1.out HSU.out).mono ?_); rintro e v7 ⟨n2, p2, k2, ws, rfl, hM2, hS2, hL2, hvv⟩; have hbv7 : Below W1.heap.size W1 v7 := hbv6.trans (hvv.mono hbv6.size); have HVc := Lib.hid (HVb.out.keep hvv); have ra0 := below_cell hvv qa0; have ra1 := below_cell hvv qa1; have ra2 := below_cell hvv qa2; have ra3 := below_cell hvv qa3; have ra4 := below_cell hvv qa4; have ra5 := below_cell hvv qa5; have ra6 := below_cell hvv qa6; have rd0 := below_cell hvv qd0; have rd1 := below_cell hvv qd1; have rd2 := below_cell hvv qd2; have rd3 := below_cell hvv qd3; have rd4 := below_cell hvv qd4; have rd5 := below_cell hvv qd5; have rd6 := below_cell hvv qd6; have wc0 := HVc.out.b.c0; have wf0 := HVc.out.f0; have wc1 := HVc.out.b.c1; have wf1 := HVc.out.f1; have wc2 := HVc.out.b.c2; have wf2 := HVc.out.f2; have wc3 := HVc.out.b.c3; have wf3 := HVc.out.f3; have wc4 := HVc.out.b.c4; have wf4 := HVc.out.f4; have wc5 := HVc.out.b.c5; have wf5 := HVc.out.f5; have wc6 := HVc.out.b.c6; have wf6 := HVc.out.f6; have HM2 := Lib.hid (hM2.low hbv6.size); have HS2 := Lib.hid hS2; have HL2 := Lib.hid hL2; clear hvv hM2 hS2 hL2)
     | fail)
  have z7 := put7_bx HVc.out.b (.int .i64 2) (.bool false) (.bool n2) (.slice p2 ws.length k2) (.int .u64 0) (.string ⟨#[]⟩) (.slice none 0 0)
  have zm := put7_mu HM2.out HLT.out (.int .i64 2) (.bool false) (.bool n2) (.slice p2 ws.length k2) (.int .u64 0) (.string ⟨#[]⟩) (.slice none 0 0)
  have zb := put7_below (HB1.out.trans (hbv7.mono HB1.out.size)) (show w.heap.size ≤ w.heap.size + 2 by omega) (.int .i64 2) (.bool false) (.bool n2) (.slice p2 ws.length k2) (.int .u64 0) (.string ⟨#[]⟩) (.slice none 0 0)
  unfold put7 at z7 zm zb
  go_wp2_with fail
  refine bodyPost_ret (v := .tuple #[.agg #[.int .i64 2, .bool false, .bool n2, .slice p2 ws.length k2, .int .u64 0, .string ⟨#[]⟩, .slice none 0 0], .int .i64 0]) (by simp [results, Tryz.results5, go_sem, z7.c0, z7.c1, z7.c2, z7.c3, z7.c4, z7.c5, z7.c6]) rfl ⟨n2, p2, k2, ws, rfl, zm.rd (by have := HL2.out; omega), HS2.out, HL2.out, zb⟩
end
section
open Go Go.ChangeShapes Go.WideShapes Go.ChangeAt Go.RowKit
set_option linter.unusedVariables false
set_option linter.unusedSimpArgs false
set_option maxRecDepth 100000 in
set_option maxHeartbeats 4000000 in
theorem is_int (n1 n2 : Bool) (u1 u2 : Value) (xs ys : List Int) (z : Int) (w : World) (hr1 : Rd w u1 xs) (hr2 : Rd w u2 ys) (hs1 : Sgn B18 n1 xs z) (hs2 : Sgn B18 n2 ys z) :
    Calls Tryz.prog 9 #[.agg #[.int .i64 2, .bool false, .bool n1, u1, .int .u64 0, .string ⟨#[]⟩, .slice none 0 0], .agg #[.int .i64 2, .bool false, .bool n2, u2, .int .u64 0, .string ⟨#[]⟩, .slice none 0 0]] w fun e w' => e = .returned (.bool true) ∧ Below w.heap.size w w' := by
  obtain ⟨pA, cA, rfl, hcA, hmA, hpA⟩ := rd_form hr1
  obtain ⟨pB, cB, rfl, hcB, hmB, hpB⟩ := rd_form hr2
  obtain ⟨W1, hW1⟩ : ∃ x, (w.alloc (.cells #[.int .i64 2, .bool false, .bool n1, .slice pA xs.length cA, .int .u64 0, .string ⟨#[]⟩, .slice none 0 0] 28)).alloc (.cells #[.int .i64 2, .bool false, .bool n2, .slice pB ys.length cB, .int .u64 0, .string ⟨#[]⟩, .slice none 0 0] 28) = x := ⟨_, rfl⟩
  have HB1 := Lib.hid (show Below w.heap.size w W1 by rw [← hW1]; exact ((Below.refl _ _).alloc (Nat.le_refl _) _).alloc (by simp) _)
  have HXA := Lib.hid (show Bx7 W1 (w.heap.size) (.int .i64 2) (.bool false) (.bool n1) (.slice pA xs.length cA) (.int .u64 0) (.string ⟨#[]⟩) (.slice none 0 0) by rw [← hW1]; exact (Bx7.new w _ _ _ _ _ _ _ _ rfl).keep ((Below.refl _ _).alloc (Nat.le_refl _) _))
  have HXB := Lib.hid (show Bx7 W1 (w.heap.size + 1) (.int .i64 2) (.bool false) (.bool n2) (.slice pB ys.length cB) (.int .u64 0) (.string ⟨#[]⟩) (.slice none 0 0) by rw [← hW1]; exact Bx7.new _ _ _ _ _ _ _ _ _ (by simp))
  have HSM := Lib.hid (show Calls Tryz.prog 34 #[.agg #[.bool n1, .slice pA xs.length cA], .agg #[.bool n2, .slice pB ys.length cB]] W1 (BoolPost W1 true) from by
    have h := same_any n1 n2 _ _ xs ys W1 (hr1.keep HB1.out) (hr2.keep HB1.out)
    rwa [hs1.same (by decide) hs2] at h)
  clear hr1 hr2 hs1 hs2 hpA hpB
  have a0 := HXA.out.c0
  have a1 := HXA.out.c1
  have a2 := HXA.out.c2
  have a3 := HXA.out.c3
  have a4 := HXA.out.c4
  have a5 := HXA.out.c5
  have a6 := HXA.out.c6
  have d0 := HXB.out.c0
  have d1 := HXB.out.c1
  have d2 := HXB.out.c2
  have d3 := HXB.out.c3
  have d4 := HXB.out.c4
  have d5 := HXB.out.c5
  have d6 := HXB.out.c6
  go_enter Tryz.func9, Tryz.ntmps9
  go_wp2_with (first
    | (go_at_call 34; (try rw [hW1]); refine HSM.out.mono ?_; rintro e w2 ⟨rfl, hbb⟩; have HB2 := Lib.hid (HB1.out.trans (hbb.mono HB1.out.size)); have e6 := below_cell hbb a6; have g6 := below_cell hbb d6; clear hbb HSM)
    | fail)
  go_loopw [5] (fun v5 wr => v5 = .int .i64 0 ∧ w2 = wr) (fun v5 wr => 0)
  case atStart => exact ⟨rfl, rfl⟩
  case round =>
    obtain ⟨rfl, rfl⟩ := hrel
    go_wp2_with fail
    go_ret
    exact ⟨by rfl, HB2.out⟩
/-- What Quote makes of the chapter's text. -/
theorem quote_ex : (⟨(qPre ⟨#[97, 39, 10, 200]⟩ 4 ++ [39]).toArray⟩ : ByteArray) = ⟨#[39, 97, 92, 39, 92, 110, 92, 120, 99, 56, 39]⟩ := by decide +kernel
theorem hash_ex : hsT (⟨#[97]⟩ : ByteArray).data.toList ((⟨#[97]⟩ : ByteArray).size : Int) = 129 := by decide +kernel
theorem good_exa : goodP 4 false false [] 0 ⟨#[97]⟩ 0 = true := by decide +kernel
theorem good_exq : goodP 4 false false [] 0 ⟨#[97, 39, 10, 200]⟩ 0 = true := by decide +kernel
theorem good_exb : goodP 1 true false [] 0 ⟨#[]⟩ 0 = true := by decide +kernel
theorem good_i {n : Bool} {ws : List Int} {z : Int} (h : Sgn B18 n ws z) (hl : ws.length ≤ 30) : goodP 2 false n ws 0 ⟨#[]⟩ 0 = true := by
  rw [goodP_int (by decide +kernel)]
  exact goodB_of h hl
end
section
open Go Go.ChangeShapes Go.WideShapes Go.ChangeAt Go.RowKit
set_option linter.unusedVariables false
set_option linter.unusedSimpArgs false
theorem small_i (n : Int) (h : -9223372036854775808 ≤ n ∧ n ≤ 9223372036854775807) : Small n := I64.small ⟨h.1, h.2⟩
theorem quote_exS : (⟨(qPre ⟨#[97, 39, 10, 200]⟩ (⟨#[97, 39, 10, 200]⟩ : ByteArray).size ++ [39]).toArray⟩ : ByteArray) = ⟨#[39, 97, 92, 39, 92, 110, 92, 120, 99, 56, 39]⟩ := quote_ex
theorem quote_known (W : World) : Calls Tryz.prog 14 #[.agg #[.int .i64 4, .bool false, .bool false, .slice none 0 0, .int .u64 0, .string ⟨#[97, 39, 10, 200]⟩, .slice none 0 0]] W fun e w' => e = .returned (.string ⟨#[39, 97, 92, 39, 92, 110, 92, 120, 99, 56, 39]⟩) ∧ Below W.heap.size W w' := by
  refine (quote_any false false (.slice none 0 0) [] 0 ⟨#[97, 39, 10, 200]⟩ none 0 0 W (by decide) (rd_nil W) fit_nil (by decide) (by decide) good_exq).mono ?_
  rintro e w' ⟨rfl, hb⟩
  exact ⟨by rw [quote_exS], hb⟩
theorem hash_known (W : World) : Calls Tryz.prog 16 #[.agg #[.int .i64 4, .bool false, .bool false, .slice none 0 0, .int .u64 0, .string ⟨#[97]⟩, .slice none 0 0]] W fun e w' => e = .returned (.int .i64 129) ∧ Below W.heap.size W w' := by
  refine (hash_str ⟨#[97]⟩ W good_exa (by decide)).mono ?_
  rintro e w' ⟨rfl, hb⟩
  exact ⟨by rw [hash_ex], hb⟩
theorem nan_num : ((fNaN : Nat) : Int) = 9221120237041090560 := by rfl
theorem pat_nan : patB fNaN = fNaN := by unfold patB; rw [nan_nan]; rfl
theorem float_known (W : World) : Calls Tryz.prog 18 #[.int .u64 9221120237041090560] W fun e w' => e = .returned (.agg #[.int .i64 3, .bool false, .bool false, .slice none 0 0, .int .u64 9221120237041090560, .string ⟨#[]⟩, .slice none 0 0]) ∧ Below W.heap.size W w' := by
  have h := rFloat_any fNaN (by decide) W
  rw [pat_nan, nan_num] at h
  exact h
theorem equal_known (W : World) : Calls Tryz.prog 17 #[.agg #[.int .i64 3, .bool false, .bool false, .slice none 0 0, .int .u64 9221120237041090560, .string ⟨#[]⟩, .slice none 0 0], .agg #[.int .i64 3, .bool false, .bool false, .slice none 0 0, .int .u64 9221120237041090560, .string ⟨#[]⟩, .slice none 0 0]] W fun e w' => e = .returned (.bool false) ∧ Below W.heap.size W w' := by
  have h := equal_known0 W
  rw [nan_num] at h
  exact h
set_option maxRecDepth 100000 in
set_option maxHeartbeats 8000000 in
theorem known15 (w : World) : Calls Tryz.prog 4 #[] w fun e w' => e = .returned (.bool true) ∧ Below w.heap.size w w' := by
  have hmm : ((0 : Nat) : Int) ≤ 9223372036854775807 := by decide
  have HI1 := Lib.hid (fun (W : World) => refint_at (n := 1) ⟨by decide, by decide⟩ (Below.refl W.heap.size W))
  have HI2 := Lib.hid (fun (W : World) => refint_at (n := 2) ⟨by decide, by decide⟩ (Below.refl W.heap.size W))
  have HQ := Lib.hid quote_known
  have HH := Lib.hid hash_known
  have HF := Lib.hid float_known
  have HE := Lib.hid equal_known
  go_enter Tryz.func4, Tryz.ntmps4
  go_wp2_with fail
  refine (rBool_any w).mono ?_
  rintro e w1 ⟨rfl, hb1⟩
  have HB1 := Lib.hid hb1
  clear hb1
  go_wp2_with fail
  refine (HI1.out w1).mono ?_
  rintro e w2 ⟨m, q, k, ds, rfl, hR2, hS2, hb2, _⟩
  have HB2 := Lib.hid (HB1.out.trans (hb2.mono HB1.out.size))
  have HR2 := Lib.hid hR2
  have HS2 := Lib.hid hS2
  clear hR2 hS2 hb2
  go_wp2_with fail
  refine (rInt_any m q k ds 1 w2 HR2.out HS2.out (small_i 1 (by decide))).mono ?_
  rintro e w3 ⟨n3, p3, k3, ws3, rfl, hR3, hS3, hL3, hb3⟩
  have HB3 := Lib.hid (HB2.out.trans (hb3.mono HB2.out.size))
  have HBin := Lib.hid (bin_add 1 true false (.slice none 0 0) [] 0 ⟨#[]⟩ none 0 0 2 false n3 _ ws3 0 ⟨#[]⟩ none 0 0 w3 (rd_nil w3) hR3 fit_nil hS3.canon.fit (by decide) (by decide) hmm hmm (by decide) (by decide) good_exb (good_i hS3 hL3) (by decide) (by decide) (by
    have e1 : zP 1 true false [] = 1 := by decide
    have e2 : zP 2 false n3 ws3 = 1 := by unfold zP; rw [if_pos rfl]; exact hS3.eq.symm
    rw [e1, e2]; exact small_i 2 (by decide)))
  have HZ := Lib.hid (show zP 1 true false [] + zP 2 false n3 ws3 = 2 by
    have e1 : zP 1 true false [] = 1 := by decide
    have e2 : zP 2 false n3 ws3 = 1 := by unfold zP; rw [if_pos rfl]; exact hS3.eq.symm
    rw [e1, e2]; rfl)
  clear hR3 hS3 hL3 hb3
  go_wp2_with fail
  refine HBin.out.mono ?_
  rintro e w4 ⟨n4, p4, k4, ws4, rfl, hR4, hS4, hL4, hb4⟩
  rw [HZ.out] at hS4
  have HB4 := Lib.hid (HB3.out.trans (hb4.mono HB3.out.size))
  have HR4 := Lib.hid hR4
  have HS4 := Lib.hid hS4
  clear hR4 hS4 hL4 hb4 HBin
  go_upto_region 2 with fail
  obtain ⟨W5, hW5⟩ : ∃ x, w4.alloc (.cells #[.int .i64 2, .bool false, .bool n4, .slice p4 ws4.length k4, .int .u64 0, .string ⟨#[]⟩, .slice none 0 0] 28) = x := ⟨_, rfl⟩
  have hb5 : Below w4.heap.size w4 W5 := by rw [← hW5]; exact (Below.refl _ _).alloc (Nat.le_refl _) _
  have HX := Lib.hid (HB4.out.trans (hb5.mono HB4.out.size))
  have HV5 := Lib.hid (show Bx7 W5 w4.heap.size (.int .i64 2) (.bool false) (.bool n4) (.slice p4 ws4.length k4) (.int .u64 0) (.string ⟨#[]⟩) (.slice none 0 0) by rw [← hW5]; exact Bx7.new _ _ _ _ _ _ _ _ _ rfl)
  replace HR4 := Lib.hid (HR4.out.keep hb5)
  (try rw [hW5])
  clear hW5 hb5
  have s0 := HV5.out.c0
  have s1 := HV5.out.c1
  have s2 := HV5.out.c2
  have s3 := HV5.out.c3
  have s4 := HV5.out.c4
  have s5 := HV5.out.c5
  have s6 := HV5.out.c6
  go_region_held3 (fun w' => w'.cell? ⟨w4.heap.size, 0, none⟩ = some (.int .i64 2) ∧ w'.cell? ⟨w4.heap.size, 1, none⟩ = some (.bool false) ∧ w'.cell? ⟨w4.heap.size, 2, none⟩ = some (.bool n4) ∧ w'.cell? ⟨w4.heap.size, 3, none⟩ = some (.slice p4 ws4.length k4) ∧ w'.cell? ⟨w4.heap.size, 4, none⟩ = some (.int .u64 0) ∧ w'.cell? ⟨w4.heap.size, 5, none⟩ = some (.string ⟨#[]⟩) ∧ w'.cell? ⟨w4.heap.size, 6, none⟩ = some (.slice none 0 0))
    (first | ((repeat' (first | with_reducible assumption | apply And.intro | with_reducible refine drew_cell ?_)); done) | fail)
    (first
     | (go_at_call 13; (with_reducible refine (HI2.out _).mono ?_); rintro e vi ⟨m2, q2, r2, es, rfl, hRi, hSi, hvv, _⟩; replace s0 := below_cell hvv s0; replace s1 := below_cell hvv s1; replace s2 := below_cell hvv s2; replace s3 := below_cell hvv s3; replace s4 := below_cell hvv s4; replace s5 := below_cell hvv s5; replace s6 := below_cell hvv s6; replace HX := Lib.hid ((drewM HX.out).trans (hvv.mono (drewM HX.out).size)); replace HR4 := Lib.hid (HR4.out.keep (Below.trans (drewM (Below.refl W5.heap.size W5)) hvv)); have HRi := Lib.hid hRi; have HSi := Lib.hid hSi; clear hvv hRi hSi)
     | (go_at_call 12; (with_reducible refine (rInt_any m2 q2 r2 es 2 vi HRi.out HSi.out (small_i 2 (by decide))).mono ?_); rintro e vj ⟨n6, p6, k6, ws6, rfl, hRj, hSj, hLj, hvv⟩; replace s0 := below_cell hvv s0; replace s1 := below_cell hvv s1; replace s2 := below_cell hvv s2; replace s3 := below_cell hvv s3; replace s4 := below_cell hvv s4; replace s5 := below_cell hvv s5; replace s6 := below_cell hvv s6; replace HX := Lib.hid (HX.out.trans (hvv.mono HX.out.size)); replace HR4 := Lib.hid (HR4.out.keep hvv); have HRj := Lib.hid hRj; have HSj := Lib.hid hSj; clear hvv hRj hSj hLj)
     | (go_at_call 9; (with_reducible refine (is_int n4 n6 _ _ ws4 ws6 2 vj HR4.out HRj.out HS4.out HSj.out).mono ?_); rintro e vv ⟨rfl, hvv⟩; replace s0 := below_cell hvv s0; replace s1 := below_cell hvv s1; replace s2 := below_cell hvv s2; replace s3 := below_cell hvv s3; replace s4 := below_cell hvv s4; replace s5 := below_cell hvv s5; replace s6 := below_cell hvv s6; replace HX := Lib.hid ((HX.out).trans (hvv.mono (HX.out).size)); clear hvv)
     | (go_at_call 15; (with_reducible refine (rStr_any _ _).mono ?_); rintro e vv ⟨rfl, hvv⟩; replace s0 := below_cell hvv s0; replace s1 := below_cell hvv s1; replace s2 := below_cell hvv s2; replace s3 := below_cell hvv s3; replace s4 := below_cell hvv s4; replace s5 := below_cell hvv s5; replace s6 := below_cell hvv s6; replace HX := Lib.hid ((HX.out).trans (hvv.mono (HX.out).size)); clear hvv)
     | (go_at_call 14; (with_reducible refine (HQ.out _).mono ?_); rintro e vv ⟨rfl, hvv⟩; replace s0 := below_cell hvv s0; replace s1 := below_cell hvv s1; replace s2 := below_cell hvv s2; replace s3 := below_cell hvv s3; replace s4 := below_cell hvv s4; replace s5 := below_cell hvv s5; replace s6 := below_cell hvv s6; replace HX := Lib.hid ((HX.out).trans (hvv.mono (HX.out).size)); clear hvv)
     | (go_at_call 16; (with_reducible refine (HH.out _).mono ?_); rintro e vv ⟨rfl, hvv⟩; replace s0 := below_cell hvv s0; replace s1 := below_cell hvv s1; replace s2 := below_cell hvv s2; replace s3 := below_cell hvv s3; replace s4 := below_cell hvv s4; replace s5 := below_cell hvv s5; replace s6 := below_cell hvv s6; replace HX := Lib.hid ((HX.out).trans (hvv.mono (HX.out).size)); clear hvv)
     | (go_at_call 18; (with_reducible refine (HF.out _).mono ?_); rintro e vv ⟨rfl, hvv⟩; replace s0 := below_cell hvv s0; replace s1 := below_cell hvv s1; replace s2 := below_cell hvv s2; replace s3 := below_cell hvv s3; replace s4 := below_cell hvv s4; replace s5 := below_cell hvv s5; replace s6 := below_cell hvv s6; replace HX := Lib.hid ((HX.out).trans (hvv.mono (HX.out).size)); clear hvv)
     | (go_at_call 17; (with_reducible refine (HE.out _).mono ?_); rintro e vv ⟨rfl, hvv⟩; replace s0 := below_cell hvv s0; replace s1 := below_cell hvv s1; replace s2 := below_cell hvv s2; replace s3 := below_cell hvv s3; replace s4 := below_cell hvv s4; replace s5 := below_cell hvv s5; replace s6 := below_cell hvv s6; replace HX := Lib.hid ((HX.out).trans (hvv.mono (HX.out).size)); clear hvv)
     | fail)
  all_goals
    go_wp2_with fail
    go_ret
    exact ⟨by rfl, HX.out⟩
end
section
open Go Go.ChangeShapes Go.WideShapes Go.ChangeAt Go.RowKit
set_option linter.unusedVariables false
set_option linter.unusedSimpArgs false
/-- A number (kind, whole number, pattern), or the empty value, and an error. -/
def ValP (k z : Int) (b : Nat) (x : Int) (W : World) (e : Ending) (w' : World) : Prop :=
  ∃ n p c ws, e = .returned (.tuple #[.agg #[.int .i64 k, .bool false, .bool n, .slice p (List.length ws) c, .int .u64 (b : Int), .string ⟨#[]⟩, .slice none 0 0], .int .i64 x]) ∧ Rd w' (.slice p ws.length c) ws ∧ Sgn B18 n ws z ∧ Below W.heap.size W w'
theorem sgn_nil : Sgn B18 false [] 0 := Sgn.zero (by decide)
theorem ValP.none {k : Int} {b : Nat} {x : Int} {W w' : World} (hb : Below W.heap.size W w') : ValP k 0 b x W (.returned (.tuple #[.agg #[.int .i64 k, .bool false, .bool false, .slice none 0 0, .int .u64 (b : Int), .string ⟨#[]⟩, .slice none 0 0], .int .i64 x])) w' :=
  ⟨false, Option.none, 0, [], rfl, .inl ⟨Option.none, rfl, rfl⟩, sgn_nil, hb⟩
theorem negneg {b : Nat} (hb : b < 18446744073709551616) : negV (negV b) = patB b := by
  rcases rneg_eq b hb with ⟨hn, hv⟩ | ⟨hn, hv⟩
  · rw [hv]
    have e : negV fNaN = fNaN := by decide +kernel
    rw [e]
    unfold patB
    rw [hn, if_pos rfl]
  · have hf : flipB b < 18446744073709551616 := by unfold flipB; split <;> (simp only [fSG] at *; omega)
    have e1 : nanB (flipB b) = false := by rw [nan_flip hb]; exact hn
    rw [hv]
    rcases rneg_eq (flipB b) hf with ⟨hn2, hv2⟩ | ⟨hn2, hv2⟩
    · rw [e1] at hn2; cases hn2
    · rw [hv2]
      unfold patB
      rw [hn, if_neg (by decide)]
      unfold flipB
      have e : fSG = 9223372036854775808 := rfl
      by_cases h : b < fSG
      · have h' : ¬ b + fSG < fSG := by omega
        rw [if_pos h, if_neg h']; omega
      · have h' : b - fSG < fSG := by omega
        rw [if_neg h, if_pos h']; omega
set_option maxRecDepth 100000 in
set_option maxHeartbeats 4000000 in
theorem floats_ok (b : Nat) (w : World) :
    Calls Tryz.prog 54 #[.int .u64 (b : Int), .int .i64 0] w fun e w' => e = .returned (.tuple #[.agg #[.int .i64 3, .bool false, .bool false, .slice none 0 0, .int .u64 (b : Int), .string ⟨#[]⟩, .slice none 0 0], .int .i64 0]) ∧ Below w.heap.size w w' := by
  have HB := Lib.hid (show ∀ x : Obj, Below w.heap.size w (w.alloc x) from fun x => (Below.refl _ _).alloc (Nat.le_refl _) _)
  go_enter Tryz.func54, Tryz.ntmps54
  go_wp2_with fail
  refine bodyPost_ret (v := .tuple #[.agg #[.int .i64 3, .bool false, .bool false, .slice none 0 0, .int .u64 (b : Int), .string ⟨#[]⟩, .slice none 0 0], .int .i64 0]) (by simp [results, Tryz.results54, go_sem]) rfl ⟨rfl, HB.out _⟩
set_option maxRecDepth 100000 in
set_option maxHeartbeats 4000000 in
theorem ints_bad (n : Bool) (p : Option Addr) (l c : Nat) (x : Int) (hx : x ≠ 0) (w : World) :
    Calls Tryz.prog 29 #[.agg #[.bool n, .slice p l c], .int .i64 x] w fun e w' => e = .returned (.tuple #[.agg #[.int .i64 0, .bool false, .bool false, .slice none 0 0, .int .u64 0, .string ⟨#[]⟩, .slice none 0 0], .int .i64 x]) ∧ Below w.heap.size w w' := by
  have HB := Lib.hid (show ∀ x : Obj, Below w.heap.size w ((w.alloc (.cells #[.bool n, .slice p l c] 24)).alloc x) from fun x => ((Below.refl _ _).alloc (Nat.le_refl _) _).alloc (by simp) _)
  have h1 : (x != 0) = true := by simpa using hx
  have h2 : (x == 0) = false := by simpa using hx
  clear hx
  go_enter Tryz.func29, Tryz.ntmps29
  go_wp2_with fail
  refine bodyPost_ret (v := .tuple #[.agg #[.int .i64 0, .bool false, .bool false, .slice none 0 0, .int .u64 0, .string ⟨#[]⟩, .slice none 0 0], .int .i64 x]) (by simp [results, Tryz.results29, go_sem]) rfl ⟨rfl, HB.out _⟩
set_option maxRecDepth 100000 in
set_option maxHeartbeats 4000000 in
theorem is_val (k : Int) (b : Nat) (n1 n2 : Bool) (u1 u2 : Value) (xs ys : List Int) (z : Int) (w : World) (hr1 : Rd w u1 xs) (hr2 : Rd w u2 ys) (hs1 : Sgn B18 n1 xs z) (hs2 : Sgn B18 n2 ys z) :
    Calls Tryz.prog 9 #[.agg #[.int .i64 k, .bool false, .bool n1, u1, .int .u64 (b : Int), .string ⟨#[]⟩, .slice none 0 0], .agg #[.int .i64 k, .bool false, .bool n2, u2, .int .u64 (b : Int), .string ⟨#[]⟩, .slice none 0 0]] w fun e w' => e = .returned (.bool true) ∧ Below w.heap.size w w' := by
  obtain ⟨pA, cA, rfl, hcA, hmA, hpA⟩ := rd_form hr1
  obtain ⟨pB, cB, rfl, hcB, hmB, hpB⟩ := rd_form hr2
  obtain ⟨W1, hW1⟩ : ∃ x, (w.alloc (.cells #[.int .i64 k, .bool false, .bool n1, .slice pA xs.length cA, .int .u64 (b : Int), .string ⟨#[]⟩, .slice none 0 0] 28)).alloc (.cells #[.int .i64 k, .bool false, .bool n2, .slice pB ys.length cB, .int .u64 (b : Int), .string ⟨#[]⟩, .slice none 0 0] 28) = x := ⟨_, rfl⟩
  have HB1 := Lib.hid (show Below w.heap.size w W1 by rw [← hW1]; exact ((Below.refl _ _).alloc (Nat.le_refl _) _).alloc (by simp) _)
  have HXA := Lib.hid (show Bx7 W1 (w.heap.size) (.int .i64 k) (.bool false) (.bool n1) (.slice pA xs.length cA) (.int .u64 (b : Int)) (.string ⟨#[]⟩) (.slice none 0 0) by rw [← hW1]; exact (Bx7.new w _ _ _ _ _ _ _ _ rfl).keep ((Below.refl _ _).alloc (Nat.le_refl _) _))
  have HXB := Lib.hid (show Bx7 W1 (w.heap.size + 1) (.int .i64 k) (.bool false) (.bool n2) (.slice pB ys.length cB) (.int .u64 (b : Int)) (.string ⟨#[]⟩) (.slice none 0 0) by rw [← hW1]; exact Bx7.new _ _ _ _ _ _ _ _ _ (by simp))
  have HSM := Lib.hid (show Calls Tryz.prog 34 #[.agg #[.bool n1, .slice pA xs.length cA], .agg #[.bool n2, .slice pB ys.length cB]] W1 (BoolPost W1 true) from by
    have h := same_any n1 n2 _ _ xs ys W1 (hr1.keep HB1.out) (hr2.keep HB1.out)
    rwa [hs1.same (by decide) hs2] at h)
  clear hr1 hr2 hs1 hs2 hpA hpB
  have e1 : (k != k) = false := by simp
  have e2 : ((b : Int) != (b : Int)) = false := by simp
  have a0 := HXA.out.c0
  have a1 := HXA.out.c1
  have a2 := HXA.out.c2
  have a3 := HXA.out.c3
  have a4 := HXA.out.c4
  have a5 := HXA.out.c5
  have a6 := HXA.out.c6
  have d0 := HXB.out.c0
  have d1 := HXB.out.c1
  have d2 := HXB.out.c2
  have d3 := HXB.out.c3
  have d4 := HXB.out.c4
  have d5 := HXB.out.c5
  have d6 := HXB.out.c6
  go_enter Tryz.func9, Tryz.ntmps9
  go_wp2_with (first
    | (go_at_call 34; (try rw [hW1]); refine HSM.out.mono ?_; rintro e w2 ⟨rfl, hbb⟩; have HB2 := Lib.hid (HB1.out.trans (hbb.mono HB1.out.size)); have e6 := below_cell hbb a6; have g6 := below_cell hbb d6; clear hbb HSM)
    | fail)
  go_loopw [5] (fun v5 wr => v5 = .int .i64 0 ∧ w2 = wr) (fun v5 wr => 0)
  case atStart => exact ⟨rfl, rfl⟩
  case round =>
    obtain ⟨rfl, rfl⟩ := hrel
    go_wp2_with fail
    go_ret
    exact ⟨by rfl, HB2.out⟩
end
end Go.Proofs.YtpebnofjcodikaaGreatDoor
