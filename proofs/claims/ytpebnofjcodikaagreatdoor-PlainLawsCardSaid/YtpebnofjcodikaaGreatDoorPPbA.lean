/- Layer 15: operators of two bools or ints: plain.binWhole. -/
import Derived.Test.YtpebnofjcodikaaGreatDoorPGPlQ
import Derived.Test.YtpebnofjcodikaaGreatDoorPGWc
import Derived.Test.YtpebnofjcodikaaGreatDoorPGWj
import Derived.Test.YtpebnofjcodikaaGreatDoorPWDivLong
namespace Go.Proofs.YtpebnofjcodikaaGreatDoor
open Go Go.ChangeShapes Go.WideShapes Go.ChangeAt Go.RowKit
set_option linter.unusedVariables false
set_option linter.unusedSimpArgs false
/-- A value (kind, whole number, pattern, text), or the empty value, and an error; its row is new memory. -/
def ValT (k z : Int) (b : Nat) (s : ByteArray) (x : Int) (W : World) (e : Ending) (w' : World) : Prop :=
  ∃ n p c ws, e = .returned (.tuple #[.agg #[.int .i64 k, .bool false, .bool n, .slice p (List.length ws) c, .int .u64 (b : Int), .string s, .slice none 0 0], .int .i64 x]) ∧ MU w' W.heap.size (.slice p ws.length c) ws ∧ ws.length ≤ 30 ∧ Sgn B18 n ws z ∧ Below W.heap.size W w'
theorem valt_none {k : Int} {b : Nat} {s : ByteArray} {x : Int} {W w' : World} (hb : Below W.heap.size W w') : ValT k 0 b s x W (.returned (.tuple #[.agg #[.int .i64 k, .bool false, .bool false, .slice none 0 0, .int .u64 (b : Int), .string s, .slice none 0 0], .int .i64 x])) w' :=
  ⟨false, none, 0, [], rfl, .inl ⟨rfl, rfl⟩, by simp, sgn_nil, hb⟩
set_option maxRecDepth 100000 in
set_option maxHeartbeats 4000000 in
theorem bw1_ok (n1 : Bool) (u1 : Value) (xs : List Int) (z1 : Int) (n2 : Bool) (u2 : Value) (ys : List Int) (z2 : Int) (w : World) (hr1 : Rd w u1 xs) (hr2 : Rd w u2 ys) (hs1 : Sgn B18 n1 xs z1) (hs2 : Sgn B18 n2 ys z2) (hl1 : xs.length ≤ 30) (hl2 : ys.length ≤ 30) (hz : Small (z1 + z2)) :
    Calls Tryz.prog 21 #[.int .i64 1, .agg #[.bool n1, u1], .agg #[.bool n2, u2]] w (ValT 2 (z1 + z2) 0 ⟨#[]⟩ 0 w) := by
  obtain ⟨pA, cA, rfl, hcA, hmA, hpA⟩ := rd_form hr1
  obtain ⟨pB, cB, rfl, hcB, hmB, hpB⟩ := rd_form hr2
  obtain ⟨W1, hW1⟩ : ∃ x, ((w.alloc (.cells #[.bool n1, .slice pA xs.length cA] 24)).alloc (.cells #[.bool n2, .slice pB ys.length cB] 24)).alloc (.cells #[.int .i64 0, .bool false, .bool false, .slice none 0 0, .int .u64 0, .string ⟨#[]⟩, .slice none 0 0] 28) = x := ⟨_, rfl⟩
  have HB := Lib.hid (show Below w.heap.size w W1 by rw [← hW1]; exact (((Below.refl _ _).alloc (Nat.le_refl _) _).alloc (by simp) _).alloc (by simp; omega) _)
  have HXA := Lib.hid (show Box2 W1 w.heap.size (.bool n1) (.slice pA xs.length cA) by rw [← hW1]; exact ((Box2.new _ _ _ _ rfl).alloc _).alloc _)
  have HXB := Lib.hid (show Box2 W1 (w.heap.size + 1) (.bool n2) (.slice pB ys.length cB) by rw [← hW1]; exact (Box2.new _ _ _ _ (by simp)).alloc _)
  have HV := Lib.hid (show Bw7 W1 (w.heap.size + 2) (.int .i64 0) (.bool false) (.bool false) (.slice none 0 0) (.int .u64 0) (.string ⟨#[]⟩) (.slice none 0 0) by rw [← hW1]; exact Bw7.new _ _ _ _ _ _ _ _ _ (by simp))
  have HLT := Lib.hid (World.block_lt_of_cell? _ _ HV.out.b.c0)
  have HA := Lib.hid (add_good n1 _ xs z1 n2 _ ys z2 W1 (hr1.keep HB.out) (hr2.keep HB.out) hs1 hs2 hl1 hl2)
  have HZ := Lib.hid hz
  clear hr1 hr2 hs1 hs2 hl1 hl2 hz hpA hpB
  have ga0 := HXA.out.c0
  have gd0 := HXB.out.c0
  have ga1 := HXA.out.c1
  have gd1 := HXB.out.c1
  go_enter Tryz.func21, Tryz.ntmps21
  go_wp2_with fail
  (try rw [hW1])
  clear hW1
  refine HA.out.mono ?_
  rintro e w2 ⟨n2r, u2r, ws, er, rfl, hM2, hB2, hC2⟩
  have hC2' : ResCase (z1 + z2) n2r ws er := hC2
  obtain rfl := hC2'.er0 HZ.out
  obtain ⟨p2, k2, rfl⟩ := MU.form hM2
  have HS2 := Lib.hid hC2'.ok
  have HL2 := Lib.hid (HS2.out.small.2 HZ.out)
  replace HB := Lib.hid (HB.out.trans (hB2.mono HB.out.size))
  replace HV := Lib.hid (HV.out.keep hB2)
  have HM2 := Lib.hid hM2
  clear hM2 hB2 hC2 hC2' ga0 ga1 gd0 gd1
  go_wp2_with fail
  refine (ints_ok n2r p2 ws.length k2 w2).mono ?_
  rintro e w3 ⟨rfl, hB3⟩
  replace HB := Lib.hid (HB.out.trans (hB3.mono HB.out.size))
  replace HV := Lib.hid (HV.out.keep hB3)
  replace HM2 := Lib.hid (HM2.out.keep hB3)
  clear hB3
  have vc0 := HV.out.b.c0
  have vf0 := HV.out.f0
  have vc1 := HV.out.b.c1
  have vf1 := HV.out.f1
  have vc2 := HV.out.b.c2
  have vf2 := HV.out.f2
  have vc3 := HV.out.b.c3
  have vf3 := HV.out.f3
  have vc4 := HV.out.b.c4
  have vf4 := HV.out.f4
  have vc5 := HV.out.b.c5
  have vf5 := HV.out.f5
  have vc6 := HV.out.b.c6
  have vf6 := HV.out.f6
  go_wp2_with fail
  have z7 := put7_bx HV.out.b (.int .i64 2) (.bool false) (.bool n2r) (.slice p2 ws.length k2) (.int .u64 0) (.string ⟨#[]⟩) (.slice none 0 0)
  have zm := put7_mu HM2.out HLT.out (.int .i64 2) (.bool false) (.bool n2r) (.slice p2 ws.length k2) (.int .u64 0) (.string ⟨#[]⟩) (.slice none 0 0)
  have zb := put7_below HB.out (show w.heap.size ≤ w.heap.size + 2 by omega) (.int .i64 2) (.bool false) (.bool n2r) (.slice p2 ws.length k2) (.int .u64 0) (.string ⟨#[]⟩) (.slice none 0 0)
  unfold put7 at z7 zm zb
  exact bodyPost_ret (v := .tuple #[.agg #[.int .i64 2, .bool false, .bool n2r, .slice p2 ws.length k2, .int .u64 0, .string ⟨#[]⟩, .slice none 0 0], .int .i64 0]) (by simp [results, Tryz.results21, go_sem, z7.c0, z7.c1, z7.c2, z7.c3, z7.c4, z7.c5, z7.c6]) rfl ⟨n2r, p2, k2, ws, rfl, zm.low (by have := HLT.out; omega), HL2.out, HS2.out, zb⟩
set_option maxRecDepth 100000 in
set_option maxHeartbeats 4000000 in
theorem bw1_no (n1 : Bool) (u1 : Value) (xs : List Int) (z1 : Int) (n2 : Bool) (u2 : Value) (ys : List Int) (z2 : Int) (w : World) (hr1 : Rd w u1 xs) (hr2 : Rd w u2 ys) (hs1 : Sgn B18 n1 xs z1) (hs2 : Sgn B18 n2 ys z2) (hl1 : xs.length ≤ 30) (hl2 : ys.length ≤ 30) (hz : ¬ Small (z1 + z2)) :
    Calls Tryz.prog 21 #[.int .i64 1, .agg #[.bool n1, u1], .agg #[.bool n2, u2]] w (ValT 0 0 0 ⟨#[]⟩ 7 w) := by
  obtain ⟨pA, cA, rfl, hcA, hmA, hpA⟩ := rd_form hr1
  obtain ⟨pB, cB, rfl, hcB, hmB, hpB⟩ := rd_form hr2
  obtain ⟨W1, hW1⟩ : ∃ x, ((w.alloc (.cells #[.bool n1, .slice pA xs.length cA] 24)).alloc (.cells #[.bool n2, .slice pB ys.length cB] 24)).alloc (.cells #[.int .i64 0, .bool false, .bool false, .slice none 0 0, .int .u64 0, .string ⟨#[]⟩, .slice none 0 0] 28) = x := ⟨_, rfl⟩
  have HB := Lib.hid (show Below w.heap.size w W1 by rw [← hW1]; exact (((Below.refl _ _).alloc (Nat.le_refl _) _).alloc (by simp) _).alloc (by simp; omega) _)
  have HXA := Lib.hid (show Box2 W1 w.heap.size (.bool n1) (.slice pA xs.length cA) by rw [← hW1]; exact ((Box2.new _ _ _ _ rfl).alloc _).alloc _)
  have HXB := Lib.hid (show Box2 W1 (w.heap.size + 1) (.bool n2) (.slice pB ys.length cB) by rw [← hW1]; exact (Box2.new _ _ _ _ (by simp)).alloc _)
  have HV := Lib.hid (show Bw7 W1 (w.heap.size + 2) (.int .i64 0) (.bool false) (.bool false) (.slice none 0 0) (.int .u64 0) (.string ⟨#[]⟩) (.slice none 0 0) by rw [← hW1]; exact Bw7.new _ _ _ _ _ _ _ _ _ (by simp))
  have HLT := Lib.hid (World.block_lt_of_cell? _ _ HV.out.b.c0)
  have HA := Lib.hid (add_good n1 _ xs z1 n2 _ ys z2 W1 (hr1.keep HB.out) (hr2.keep HB.out) hs1 hs2 hl1 hl2)
  have HZ := Lib.hid hz
  clear hr1 hr2 hs1 hs2 hl1 hl2 hz hpA hpB
  have ga0 := HXA.out.c0
  have gd0 := HXB.out.c0
  have ga1 := HXA.out.c1
  have gd1 := HXB.out.c1
  go_enter Tryz.func21, Tryz.ntmps21
  go_wp2_with fail
  (try rw [hW1])
  clear hW1
  refine HA.out.mono ?_
  rintro e w2 ⟨n2r, u2r, ws, er, rfl, hM2, hB2, hC2⟩
  have hC2' : ResCase (z1 + z2) n2r ws er := hC2
  obtain rfl := hC2'.er7 HZ.out
  obtain ⟨p2, k2, rfl⟩ := MU.form hM2
  replace HB := Lib.hid (HB.out.trans (hB2.mono HB.out.size))
  replace HV := Lib.hid (HV.out.keep hB2)
  have HM2 := Lib.hid hM2
  clear hM2 hB2 hC2 hC2' ga0 ga1 gd0 gd1
  go_wp2_with fail
  refine (ints_bad n2r p2 ws.length k2 7 (by decide) w2).mono ?_
  rintro e w3 ⟨rfl, hB3⟩
  replace HB := Lib.hid (HB.out.trans (hB3.mono HB.out.size))
  replace HV := Lib.hid (HV.out.keep hB3)
  replace HM2 := Lib.hid (HM2.out.keep hB3)
  clear hB3
  have vc0 := HV.out.b.c0
  have vf0 := HV.out.f0
  have vc1 := HV.out.b.c1
  have vf1 := HV.out.f1
  have vc2 := HV.out.b.c2
  have vf2 := HV.out.f2
  have vc3 := HV.out.b.c3
  have vf3 := HV.out.f3
  have vc4 := HV.out.b.c4
  have vf4 := HV.out.f4
  have vc5 := HV.out.b.c5
  have vf5 := HV.out.f5
  have vc6 := HV.out.b.c6
  have vf6 := HV.out.f6
  go_wp2_with fail
  have z7 := put7_bx HV.out.b (.int .i64 0) (.bool false) (.bool false) (.slice none 0 0) (.int .u64 0) (.string ⟨#[]⟩) (.slice none 0 0)
  have zb := put7_below HB.out (show w.heap.size ≤ w.heap.size + 2 by omega) (.int .i64 0) (.bool false) (.bool false) (.slice none 0 0) (.int .u64 0) (.string ⟨#[]⟩) (.slice none 0 0)
  unfold put7 at z7 zb
  exact bodyPost_ret (v := .tuple #[.agg #[.int .i64 0, .bool false, .bool false, .slice none 0 0, .int .u64 0, .string ⟨#[]⟩, .slice none 0 0], .int .i64 7]) (by simp [results, Tryz.results21, go_sem, z7.c0, z7.c1, z7.c2, z7.c3, z7.c4, z7.c5, z7.c6]) rfl (valt_none zb)
set_option maxRecDepth 100000 in
set_option maxHeartbeats 4000000 in
theorem bw2_ok (n1 : Bool) (u1 : Value) (xs : List Int) (z1 : Int) (n2 : Bool) (u2 : Value) (ys : List Int) (z2 : Int) (w : World) (hr1 : Rd w u1 xs) (hr2 : Rd w u2 ys) (hs1 : Sgn B18 n1 xs z1) (hs2 : Sgn B18 n2 ys z2) (hl1 : xs.length ≤ 30) (hl2 : ys.length ≤ 30) (hz : Small (z1 - z2)) :
    Calls Tryz.prog 21 #[.int .i64 2, .agg #[.bool n1, u1], .agg #[.bool n2, u2]] w (ValT 2 (z1 - z2) 0 ⟨#[]⟩ 0 w) := by
  obtain ⟨pA, cA, rfl, hcA, hmA, hpA⟩ := rd_form hr1
  obtain ⟨pB, cB, rfl, hcB, hmB, hpB⟩ := rd_form hr2
  obtain ⟨W1, hW1⟩ : ∃ x, ((w.alloc (.cells #[.bool n1, .slice pA xs.length cA] 24)).alloc (.cells #[.bool n2, .slice pB ys.length cB] 24)).alloc (.cells #[.int .i64 0, .bool false, .bool false, .slice none 0 0, .int .u64 0, .string ⟨#[]⟩, .slice none 0 0] 28) = x := ⟨_, rfl⟩
  have HB := Lib.hid (show Below w.heap.size w W1 by rw [← hW1]; exact (((Below.refl _ _).alloc (Nat.le_refl _) _).alloc (by simp) _).alloc (by simp; omega) _)
  have HXA := Lib.hid (show Box2 W1 w.heap.size (.bool n1) (.slice pA xs.length cA) by rw [← hW1]; exact ((Box2.new _ _ _ _ rfl).alloc _).alloc _)
  have HXB := Lib.hid (show Box2 W1 (w.heap.size + 1) (.bool n2) (.slice pB ys.length cB) by rw [← hW1]; exact (Box2.new _ _ _ _ (by simp)).alloc _)
  have HV := Lib.hid (show Bw7 W1 (w.heap.size + 2) (.int .i64 0) (.bool false) (.bool false) (.slice none 0 0) (.int .u64 0) (.string ⟨#[]⟩) (.slice none 0 0) by rw [← hW1]; exact Bw7.new _ _ _ _ _ _ _ _ _ (by simp))
  have HLT := Lib.hid (World.block_lt_of_cell? _ _ HV.out.b.c0)
  have HA := Lib.hid (sub_good n1 _ xs z1 n2 _ ys z2 W1 (hr1.keep HB.out) (hr2.keep HB.out) hs1 hs2 hl1 hl2)
  have HZ := Lib.hid hz
  clear hr1 hr2 hs1 hs2 hl1 hl2 hz hpA hpB
  have ga0 := HXA.out.c0
  have gd0 := HXB.out.c0
  have ga1 := HXA.out.c1
  have gd1 := HXB.out.c1
  go_enter Tryz.func21, Tryz.ntmps21
  go_wp2_with fail
  (try rw [hW1])
  clear hW1
  refine HA.out.mono ?_
  rintro e w2 ⟨n2r, u2r, ws, er, rfl, hM2, hB2, hC2⟩
  have hC2' : ResCase (z1 - z2) n2r ws er := hC2
  obtain rfl := hC2'.er0 HZ.out
  obtain ⟨p2, k2, rfl⟩ := MU.form hM2
  have HS2 := Lib.hid hC2'.ok
  have HL2 := Lib.hid (HS2.out.small.2 HZ.out)
  replace HB := Lib.hid (HB.out.trans (hB2.mono HB.out.size))
  replace HV := Lib.hid (HV.out.keep hB2)
  have HM2 := Lib.hid hM2
  clear hM2 hB2 hC2 hC2' ga0 ga1 gd0 gd1
  go_wp2_with fail
  refine (ints_ok n2r p2 ws.length k2 w2).mono ?_
  rintro e w3 ⟨rfl, hB3⟩
  replace HB := Lib.hid (HB.out.trans (hB3.mono HB.out.size))
  replace HV := Lib.hid (HV.out.keep hB3)
  replace HM2 := Lib.hid (HM2.out.keep hB3)
  clear hB3
  have vc0 := HV.out.b.c0
  have vf0 := HV.out.f0
  have vc1 := HV.out.b.c1
  have vf1 := HV.out.f1
  have vc2 := HV.out.b.c2
  have vf2 := HV.out.f2
  have vc3 := HV.out.b.c3
  have vf3 := HV.out.f3
  have vc4 := HV.out.b.c4
  have vf4 := HV.out.f4
  have vc5 := HV.out.b.c5
  have vf5 := HV.out.f5
  have vc6 := HV.out.b.c6
  have vf6 := HV.out.f6
  go_wp2_with fail
  have z7 := put7_bx HV.out.b (.int .i64 2) (.bool false) (.bool n2r) (.slice p2 ws.length k2) (.int .u64 0) (.string ⟨#[]⟩) (.slice none 0 0)
  have zm := put7_mu HM2.out HLT.out (.int .i64 2) (.bool false) (.bool n2r) (.slice p2 ws.length k2) (.int .u64 0) (.string ⟨#[]⟩) (.slice none 0 0)
  have zb := put7_below HB.out (show w.heap.size ≤ w.heap.size + 2 by omega) (.int .i64 2) (.bool false) (.bool n2r) (.slice p2 ws.length k2) (.int .u64 0) (.string ⟨#[]⟩) (.slice none 0 0)
  unfold put7 at z7 zm zb
  exact bodyPost_ret (v := .tuple #[.agg #[.int .i64 2, .bool false, .bool n2r, .slice p2 ws.length k2, .int .u64 0, .string ⟨#[]⟩, .slice none 0 0], .int .i64 0]) (by simp [results, Tryz.results21, go_sem, z7.c0, z7.c1, z7.c2, z7.c3, z7.c4, z7.c5, z7.c6]) rfl ⟨n2r, p2, k2, ws, rfl, zm.low (by have := HLT.out; omega), HL2.out, HS2.out, zb⟩
set_option maxRecDepth 100000 in
set_option maxHeartbeats 4000000 in
theorem bw2_no (n1 : Bool) (u1 : Value) (xs : List Int) (z1 : Int) (n2 : Bool) (u2 : Value) (ys : List Int) (z2 : Int) (w : World) (hr1 : Rd w u1 xs) (hr2 : Rd w u2 ys) (hs1 : Sgn B18 n1 xs z1) (hs2 : Sgn B18 n2 ys z2) (hl1 : xs.length ≤ 30) (hl2 : ys.length ≤ 30) (hz : ¬ Small (z1 - z2)) :
    Calls Tryz.prog 21 #[.int .i64 2, .agg #[.bool n1, u1], .agg #[.bool n2, u2]] w (ValT 0 0 0 ⟨#[]⟩ 7 w) := by
  obtain ⟨pA, cA, rfl, hcA, hmA, hpA⟩ := rd_form hr1
  obtain ⟨pB, cB, rfl, hcB, hmB, hpB⟩ := rd_form hr2
  obtain ⟨W1, hW1⟩ : ∃ x, ((w.alloc (.cells #[.bool n1, .slice pA xs.length cA] 24)).alloc (.cells #[.bool n2, .slice pB ys.length cB] 24)).alloc (.cells #[.int .i64 0, .bool false, .bool false, .slice none 0 0, .int .u64 0, .string ⟨#[]⟩, .slice none 0 0] 28) = x := ⟨_, rfl⟩
  have HB := Lib.hid (show Below w.heap.size w W1 by rw [← hW1]; exact (((Below.refl _ _).alloc (Nat.le_refl _) _).alloc (by simp) _).alloc (by simp; omega) _)
  have HXA := Lib.hid (show Box2 W1 w.heap.size (.bool n1) (.slice pA xs.length cA) by rw [← hW1]; exact ((Box2.new _ _ _ _ rfl).alloc _).alloc _)
  have HXB := Lib.hid (show Box2 W1 (w.heap.size + 1) (.bool n2) (.slice pB ys.length cB) by rw [← hW1]; exact (Box2.new _ _ _ _ (by simp)).alloc _)
  have HV := Lib.hid (show Bw7 W1 (w.heap.size + 2) (.int .i64 0) (.bool false) (.bool false) (.slice none 0 0) (.int .u64 0) (.string ⟨#[]⟩) (.slice none 0 0) by rw [← hW1]; exact Bw7.new _ _ _ _ _ _ _ _ _ (by simp))
  have HLT := Lib.hid (World.block_lt_of_cell? _ _ HV.out.b.c0)
  have HA := Lib.hid (sub_good n1 _ xs z1 n2 _ ys z2 W1 (hr1.keep HB.out) (hr2.keep HB.out) hs1 hs2 hl1 hl2)
  have HZ := Lib.hid hz
  clear hr1 hr2 hs1 hs2 hl1 hl2 hz hpA hpB
  have ga0 := HXA.out.c0
  have gd0 := HXB.out.c0
  have ga1 := HXA.out.c1
  have gd1 := HXB.out.c1
  go_enter Tryz.func21, Tryz.ntmps21
  go_wp2_with fail
  (try rw [hW1])
  clear hW1
  refine HA.out.mono ?_
  rintro e w2 ⟨n2r, u2r, ws, er, rfl, hM2, hB2, hC2⟩
  have hC2' : ResCase (z1 - z2) n2r ws er := hC2
  obtain rfl := hC2'.er7 HZ.out
  obtain ⟨p2, k2, rfl⟩ := MU.form hM2
  replace HB := Lib.hid (HB.out.trans (hB2.mono HB.out.size))
  replace HV := Lib.hid (HV.out.keep hB2)
  have HM2 := Lib.hid hM2
  clear hM2 hB2 hC2 hC2' ga0 ga1 gd0 gd1
  go_wp2_with fail
  refine (ints_bad n2r p2 ws.length k2 7 (by decide) w2).mono ?_
  rintro e w3 ⟨rfl, hB3⟩
  replace HB := Lib.hid (HB.out.trans (hB3.mono HB.out.size))
  replace HV := Lib.hid (HV.out.keep hB3)
  replace HM2 := Lib.hid (HM2.out.keep hB3)
  clear hB3
  have vc0 := HV.out.b.c0
  have vf0 := HV.out.f0
  have vc1 := HV.out.b.c1
  have vf1 := HV.out.f1
  have vc2 := HV.out.b.c2
  have vf2 := HV.out.f2
  have vc3 := HV.out.b.c3
  have vf3 := HV.out.f3
  have vc4 := HV.out.b.c4
  have vf4 := HV.out.f4
  have vc5 := HV.out.b.c5
  have vf5 := HV.out.f5
  have vc6 := HV.out.b.c6
  have vf6 := HV.out.f6
  go_wp2_with fail
  have z7 := put7_bx HV.out.b (.int .i64 0) (.bool false) (.bool false) (.slice none 0 0) (.int .u64 0) (.string ⟨#[]⟩) (.slice none 0 0)
  have zb := put7_below HB.out (show w.heap.size ≤ w.heap.size + 2 by omega) (.int .i64 0) (.bool false) (.bool false) (.slice none 0 0) (.int .u64 0) (.string ⟨#[]⟩) (.slice none 0 0)
  unfold put7 at z7 zb
  exact bodyPost_ret (v := .tuple #[.agg #[.int .i64 0, .bool false, .bool false, .slice none 0 0, .int .u64 0, .string ⟨#[]⟩, .slice none 0 0], .int .i64 7]) (by simp [results, Tryz.results21, go_sem, z7.c0, z7.c1, z7.c2, z7.c3, z7.c4, z7.c5, z7.c6]) rfl (valt_none zb)
set_option maxRecDepth 100000 in
set_option maxHeartbeats 4000000 in
theorem bw3_ok (n1 : Bool) (u1 : Value) (xs : List Int) (z1 : Int) (n2 : Bool) (u2 : Value) (ys : List Int) (z2 : Int) (w : World) (hr1 : Rd w u1 xs) (hr2 : Rd w u2 ys) (hs1 : Sgn B18 n1 xs z1) (hs2 : Sgn B18 n2 ys z2) (hl1 : xs.length ≤ 30) (hl2 : ys.length ≤ 30) (hz : Small (z1 * z2)) :
    Calls Tryz.prog 21 #[.int .i64 3, .agg #[.bool n1, u1], .agg #[.bool n2, u2]] w (ValT 2 (z1 * z2) 0 ⟨#[]⟩ 0 w) := by
  obtain ⟨pA, cA, rfl, hcA, hmA, hpA⟩ := rd_form hr1
  obtain ⟨pB, cB, rfl, hcB, hmB, hpB⟩ := rd_form hr2
  obtain ⟨W1, hW1⟩ : ∃ x, ((w.alloc (.cells #[.bool n1, .slice pA xs.length cA] 24)).alloc (.cells #[.bool n2, .slice pB ys.length cB] 24)).alloc (.cells #[.int .i64 0, .bool false, .bool false, .slice none 0 0, .int .u64 0, .string ⟨#[]⟩, .slice none 0 0] 28) = x := ⟨_, rfl⟩
  have HB := Lib.hid (show Below w.heap.size w W1 by rw [← hW1]; exact (((Below.refl _ _).alloc (Nat.le_refl _) _).alloc (by simp) _).alloc (by simp; omega) _)
  have HXA := Lib.hid (show Box2 W1 w.heap.size (.bool n1) (.slice pA xs.length cA) by rw [← hW1]; exact ((Box2.new _ _ _ _ rfl).alloc _).alloc _)
  have HXB := Lib.hid (show Box2 W1 (w.heap.size + 1) (.bool n2) (.slice pB ys.length cB) by rw [← hW1]; exact (Box2.new _ _ _ _ (by simp)).alloc _)
  have HV := Lib.hid (show Bw7 W1 (w.heap.size + 2) (.int .i64 0) (.bool false) (.bool false) (.slice none 0 0) (.int .u64 0) (.string ⟨#[]⟩) (.slice none 0 0) by rw [← hW1]; exact Bw7.new _ _ _ _ _ _ _ _ _ (by simp))
  have HLT := Lib.hid (World.block_lt_of_cell? _ _ HV.out.b.c0)
  have HA := Lib.hid (mul_good n1 _ xs z1 n2 _ ys z2 W1 (hr1.keep HB.out) (hr2.keep HB.out) hs1 hs2 hl1 hl2)
  have HZ := Lib.hid hz
  clear hr1 hr2 hs1 hs2 hl1 hl2 hz hpA hpB
  have ga0 := HXA.out.c0
  have gd0 := HXB.out.c0
  have ga1 := HXA.out.c1
  have gd1 := HXB.out.c1
  go_enter Tryz.func21, Tryz.ntmps21
  go_wp2_with fail
  (try rw [hW1])
  clear hW1
  refine HA.out.mono ?_
  rintro e w2 ⟨n2r, u2r, ws, er, rfl, hM2, hB2, hC2⟩
  have hC2' : ResCase (z1 * z2) n2r ws er := hC2
  obtain rfl := hC2'.er0 HZ.out
  obtain ⟨p2, k2, rfl⟩ := MU.form hM2
  have HS2 := Lib.hid hC2'.ok
  have HL2 := Lib.hid (HS2.out.small.2 HZ.out)
  replace HB := Lib.hid (HB.out.trans (hB2.mono HB.out.size))
  replace HV := Lib.hid (HV.out.keep hB2)
  have HM2 := Lib.hid hM2
  clear hM2 hB2 hC2 hC2' ga0 ga1 gd0 gd1
  go_wp2_with fail
  refine (ints_ok n2r p2 ws.length k2 w2).mono ?_
  rintro e w3 ⟨rfl, hB3⟩
  replace HB := Lib.hid (HB.out.trans (hB3.mono HB.out.size))
  replace HV := Lib.hid (HV.out.keep hB3)
  replace HM2 := Lib.hid (HM2.out.keep hB3)
  clear hB3
  have vc0 := HV.out.b.c0
  have vf0 := HV.out.f0
  have vc1 := HV.out.b.c1
  have vf1 := HV.out.f1
  have vc2 := HV.out.b.c2
  have vf2 := HV.out.f2
  have vc3 := HV.out.b.c3
  have vf3 := HV.out.f3
  have vc4 := HV.out.b.c4
  have vf4 := HV.out.f4
  have vc5 := HV.out.b.c5
  have vf5 := HV.out.f5
  have vc6 := HV.out.b.c6
  have vf6 := HV.out.f6
  go_wp2_with fail
  have z7 := put7_bx HV.out.b (.int .i64 2) (.bool false) (.bool n2r) (.slice p2 ws.length k2) (.int .u64 0) (.string ⟨#[]⟩) (.slice none 0 0)
  have zm := put7_mu HM2.out HLT.out (.int .i64 2) (.bool false) (.bool n2r) (.slice p2 ws.length k2) (.int .u64 0) (.string ⟨#[]⟩) (.slice none 0 0)
  have zb := put7_below HB.out (show w.heap.size ≤ w.heap.size + 2 by omega) (.int .i64 2) (.bool false) (.bool n2r) (.slice p2 ws.length k2) (.int .u64 0) (.string ⟨#[]⟩) (.slice none 0 0)
  unfold put7 at z7 zm zb
  exact bodyPost_ret (v := .tuple #[.agg #[.int .i64 2, .bool false, .bool n2r, .slice p2 ws.length k2, .int .u64 0, .string ⟨#[]⟩, .slice none 0 0], .int .i64 0]) (by simp [results, Tryz.results21, go_sem, z7.c0, z7.c1, z7.c2, z7.c3, z7.c4, z7.c5, z7.c6]) rfl ⟨n2r, p2, k2, ws, rfl, zm.low (by have := HLT.out; omega), HL2.out, HS2.out, zb⟩
set_option maxRecDepth 100000 in
set_option maxHeartbeats 4000000 in
theorem bw3_no (n1 : Bool) (u1 : Value) (xs : List Int) (z1 : Int) (n2 : Bool) (u2 : Value) (ys : List Int) (z2 : Int) (w : World) (hr1 : Rd w u1 xs) (hr2 : Rd w u2 ys) (hs1 : Sgn B18 n1 xs z1) (hs2 : Sgn B18 n2 ys z2) (hl1 : xs.length ≤ 30) (hl2 : ys.length ≤ 30) (hz : ¬ Small (z1 * z2)) :
    Calls Tryz.prog 21 #[.int .i64 3, .agg #[.bool n1, u1], .agg #[.bool n2, u2]] w (ValT 0 0 0 ⟨#[]⟩ 7 w) := by
  obtain ⟨pA, cA, rfl, hcA, hmA, hpA⟩ := rd_form hr1
  obtain ⟨pB, cB, rfl, hcB, hmB, hpB⟩ := rd_form hr2
  obtain ⟨W1, hW1⟩ : ∃ x, ((w.alloc (.cells #[.bool n1, .slice pA xs.length cA] 24)).alloc (.cells #[.bool n2, .slice pB ys.length cB] 24)).alloc (.cells #[.int .i64 0, .bool false, .bool false, .slice none 0 0, .int .u64 0, .string ⟨#[]⟩, .slice none 0 0] 28) = x := ⟨_, rfl⟩
  have HB := Lib.hid (show Below w.heap.size w W1 by rw [← hW1]; exact (((Below.refl _ _).alloc (Nat.le_refl _) _).alloc (by simp) _).alloc (by simp; omega) _)
  have HXA := Lib.hid (show Box2 W1 w.heap.size (.bool n1) (.slice pA xs.length cA) by rw [← hW1]; exact ((Box2.new _ _ _ _ rfl).alloc _).alloc _)
  have HXB := Lib.hid (show Box2 W1 (w.heap.size + 1) (.bool n2) (.slice pB ys.length cB) by rw [← hW1]; exact (Box2.new _ _ _ _ (by simp)).alloc _)
  have HV := Lib.hid (show Bw7 W1 (w.heap.size + 2) (.int .i64 0) (.bool false) (.bool false) (.slice none 0 0) (.int .u64 0) (.string ⟨#[]⟩) (.slice none 0 0) by rw [← hW1]; exact Bw7.new _ _ _ _ _ _ _ _ _ (by simp))
  have HLT := Lib.hid (World.block_lt_of_cell? _ _ HV.out.b.c0)
  have HA := Lib.hid (mul_good n1 _ xs z1 n2 _ ys z2 W1 (hr1.keep HB.out) (hr2.keep HB.out) hs1 hs2 hl1 hl2)
  have HZ := Lib.hid hz
  clear hr1 hr2 hs1 hs2 hl1 hl2 hz hpA hpB
  have ga0 := HXA.out.c0
  have gd0 := HXB.out.c0
  have ga1 := HXA.out.c1
  have gd1 := HXB.out.c1
  go_enter Tryz.func21, Tryz.ntmps21
  go_wp2_with fail
  (try rw [hW1])
  clear hW1
  refine HA.out.mono ?_
  rintro e w2 ⟨n2r, u2r, ws, er, rfl, hM2, hB2, hC2⟩
  have hC2' : ResCase (z1 * z2) n2r ws er := hC2
  obtain rfl := hC2'.er7 HZ.out
  obtain ⟨p2, k2, rfl⟩ := MU.form hM2
  replace HB := Lib.hid (HB.out.trans (hB2.mono HB.out.size))
  replace HV := Lib.hid (HV.out.keep hB2)
  have HM2 := Lib.hid hM2
  clear hM2 hB2 hC2 hC2' ga0 ga1 gd0 gd1
  go_wp2_with fail
  refine (ints_bad n2r p2 ws.length k2 7 (by decide) w2).mono ?_
  rintro e w3 ⟨rfl, hB3⟩
  replace HB := Lib.hid (HB.out.trans (hB3.mono HB.out.size))
  replace HV := Lib.hid (HV.out.keep hB3)
  replace HM2 := Lib.hid (HM2.out.keep hB3)
  clear hB3
  have vc0 := HV.out.b.c0
  have vf0 := HV.out.f0
  have vc1 := HV.out.b.c1
  have vf1 := HV.out.f1
  have vc2 := HV.out.b.c2
  have vf2 := HV.out.f2
  have vc3 := HV.out.b.c3
  have vf3 := HV.out.f3
  have vc4 := HV.out.b.c4
  have vf4 := HV.out.f4
  have vc5 := HV.out.b.c5
  have vf5 := HV.out.f5
  have vc6 := HV.out.b.c6
  have vf6 := HV.out.f6
  go_wp2_with fail
  have z7 := put7_bx HV.out.b (.int .i64 0) (.bool false) (.bool false) (.slice none 0 0) (.int .u64 0) (.string ⟨#[]⟩) (.slice none 0 0)
  have zb := put7_below HB.out (show w.heap.size ≤ w.heap.size + 2 by omega) (.int .i64 0) (.bool false) (.bool false) (.slice none 0 0) (.int .u64 0) (.string ⟨#[]⟩) (.slice none 0 0)
  unfold put7 at z7 zb
  exact bodyPost_ret (v := .tuple #[.agg #[.int .i64 0, .bool false, .bool false, .slice none 0 0, .int .u64 0, .string ⟨#[]⟩, .slice none 0 0], .int .i64 7]) (by simp [results, Tryz.results21, go_sem, z7.c0, z7.c1, z7.c2, z7.c3, z7.c4, z7.c5, z7.c6]) rfl (valt_none zb)
theorem fdm (z1 z2 zq zr : Int) (h : z1 = zq * z2 + zr) (hb : (0 ≤ zr ∧ zr < z2) ∨ (z2 < zr ∧ zr ≤ 0)) : zq = Int.fdiv z1 z2 ∧ zr = Int.fmod z1 z2 := by
  have h0 : z2 ≠ 0 := by omega
  have e : Int.fmod z1 z2 + z2 * Int.fdiv z1 z2 = z1 := Int.fmod_add_mul_fdiv z1 z2
  have hb2 : (0 ≤ Int.fmod z1 z2 ∧ Int.fmod z1 z2 < z2) ∨ (z2 < Int.fmod z1 z2 ∧ Int.fmod z1 z2 ≤ 0) := by
    rcases Int.lt_or_gt_of_ne h0 with h1 | h1
    · have e1 : Int.fmod (-z1) (-z2) = -Int.fmod z1 z2 := Int.neg_fmod_neg z1 z2
      have e2 := Int.fmod_nonneg_of_pos (-z1) (show 0 < -z2 by omega)
      have e3 := Int.fmod_lt_of_pos (-z1) (show 0 < -z2 by omega)
      rw [e1] at e2 e3
      exact .inr ⟨by omega, by omega⟩
    · exact .inl ⟨Int.fmod_nonneg_of_pos z1 h1, Int.fmod_lt_of_pos z1 h1⟩
  have e2 : zq * z2 + zr = Int.fdiv z1 z2 * z2 + Int.fmod z1 z2 := by rw [Int.mul_comm (Int.fdiv z1 z2)]; omega
  have hq : zq - Int.fdiv z1 z2 = 0 := by
    have e3 : (zq - Int.fdiv z1 z2) * z2 = Int.fmod z1 z2 - zr := by rw [Int.sub_mul]; omega
    by_cases a : 1 ≤ zq - Int.fdiv z1 z2
    · by_cases hz : 0 < z2
      · have := Int.mul_le_mul_of_nonneg_right a (show 0 ≤ z2 by omega); omega
      · have := Int.mul_le_mul_of_nonpos_right a (show z2 ≤ 0 by omega); omega
    · by_cases b : zq - Int.fdiv z1 z2 ≤ -1
      · by_cases hz : 0 < z2
        · have := Int.mul_le_mul_of_nonneg_right b (show 0 ≤ z2 by omega); omega
        · have := Int.mul_le_mul_of_nonpos_right b (show z2 ≤ 0 by omega); omega
      · omega
  have hq2 : zq = Int.fdiv z1 z2 := by omega
  exact ⟨hq2, by rw [hq2] at e2; omega⟩
theorem small_abs {z y : Int} (h : Small z) (h2 : y.natAbs ≤ z.natAbs) : Small y := by
  obtain ⟨h⟩ := h
  exact ⟨by omega⟩
theorem small_fmod {z1 z2 zq zr : Int} (h1 : Small z1) (h2 : Small z2) (he : z1 = zq * z2 + zr) (hb : (0 ≤ zr ∧ zr < z2) ∨ (z2 < zr ∧ zr ≤ 0)) : Small zr := small_abs h2 (by omega)
theorem small_fdiv {z1 z2 zq zr : Int} (h1 : Small z1) (h2 : Small z2) (he : z1 = zq * z2 + zr) (hb : (0 ≤ zr ∧ zr < z2) ∨ (z2 < zr ∧ zr ≤ 0)) : Small zq := by
  by_cases h0 : z1 = 0
  · have : zq = 0 := by
      by_cases a : 1 ≤ zq
      · by_cases hz : 0 < z2
        · have := Int.mul_le_mul_of_nonneg_right a (show 0 ≤ z2 by omega); omega
        · have := Int.mul_le_mul_of_nonpos_right a (show z2 ≤ 0 by omega); omega
      · by_cases b : zq ≤ -1
        · by_cases hz : 0 < z2
          · have := Int.mul_le_mul_of_nonneg_right b (show 0 ≤ z2 by omega); omega
          · have := Int.mul_le_mul_of_nonpos_right b (show z2 ≤ 0 by omega); omega
        · omega
    rw [this]; exact small_i 0 (by decide)
  · exact small_abs h1 (by
      have e : zq * z2 = z1 - zr := by omega
      have m := Int.natAbs_mul zq z2
      rw [e] at m
      have k : zq.natAbs ≤ z1.natAbs := by
        by_cases hq : zq.natAbs = 0
        · omega
        · by_cases h2 : z2.natAbs = 1
          · rw [h2, Nat.mul_one] at m
            have : zr = 0 := by omega
            omega
          · have : zq.natAbs * 2 ≤ zq.natAbs * z2.natAbs := Nat.mul_le_mul_left _ (by omega)
            have q2 : (zq.natAbs - 1) * z2.natAbs + z2.natAbs = zq.natAbs * z2.natAbs := by
              have : zq.natAbs = (zq.natAbs - 1) + 1 := by omega
              rw [this, Nat.add_mul]; simp
            have q3 : (zq.natAbs - 1) * 2 ≤ (zq.natAbs - 1) * z2.natAbs := Nat.mul_le_mul_left _ (by omega)
            omega
      exact k)
set_option maxRecDepth 100000 in
set_option maxHeartbeats 4000000 in
theorem bw5_ok (n1 : Bool) (u1 : Value) (xs : List Int) (z1 : Int) (n2 : Bool) (u2 : Value) (ys : List Int) (z2 : Int) (w : World) (hr1 : Rd w u1 xs) (hr2 : Rd w u2 ys) (hs1 : Sgn B18 n1 xs z1) (hs2 : Sgn B18 n2 ys z2) (hl1 : xs.length ≤ 30) (hl2 : ys.length ≤ 30) (hy : 0 < ys.length) :
    Calls Tryz.prog 21 #[.int .i64 5, .agg #[.bool n1, u1], .agg #[.bool n2, u2]] w (ValT 2 (Int.fdiv z1 z2) 0 ⟨#[]⟩ 0 w) := by
  obtain ⟨pA, cA, rfl, hcA, hmA, hpA⟩ := rd_form hr1
  obtain ⟨pB, cB, rfl, hcB, hmB, hpB⟩ := rd_form hr2
  obtain ⟨W1, hW1⟩ : ∃ x, ((w.alloc (.cells #[.bool n1, .slice pA xs.length cA] 24)).alloc (.cells #[.bool n2, .slice pB ys.length cB] 24)).alloc (.cells #[.int .i64 0, .bool false, .bool false, .slice none 0 0, .int .u64 0, .string ⟨#[]⟩, .slice none 0 0] 28) = x := ⟨_, rfl⟩
  have HB := Lib.hid (show Below w.heap.size w W1 by rw [← hW1]; exact (((Below.refl _ _).alloc (Nat.le_refl _) _).alloc (by simp) _).alloc (by simp; omega) _)
  have HXA := Lib.hid (show Box2 W1 w.heap.size (.bool n1) (.slice pA xs.length cA) by rw [← hW1]; exact ((Box2.new _ _ _ _ rfl).alloc _).alloc _)
  have HXB := Lib.hid (show Box2 W1 (w.heap.size + 1) (.bool n2) (.slice pB ys.length cB) by rw [← hW1]; exact (Box2.new _ _ _ _ (by simp)).alloc _)
  have HV := Lib.hid (show Bw7 W1 (w.heap.size + 2) (.int .i64 0) (.bool false) (.bool false) (.slice none 0 0) (.int .u64 0) (.string ⟨#[]⟩) (.slice none 0 0) by rw [← hW1]; exact Bw7.new _ _ _ _ _ _ _ _ _ (by simp))
  have HLT := Lib.hid (World.block_lt_of_cell? _ _ HV.out.b.c0)
  have HA := Lib.hid (div_good n1 _ xs z1 n2 _ ys z2 W1 (hr1.keep HB.out) (hr2.keep HB.out) hs1 hs2 hl1 hl2 hy)
  have HQS := Lib.hid (hs1.small.1 hl1)
  have HYS := Lib.hid (hs2.small.1 hl2)
  clear hr1 hr2 hs1 hs2 hl1 hl2 hy hpA hpB
  have ga0 := HXA.out.c0
  have gd0 := HXB.out.c0
  have ga1 := HXA.out.c1
  have gd1 := HXB.out.c1
  go_enter Tryz.func21, Tryz.ntmps21
  go_wp2_with fail
  (try rw [hW1])
  clear hW1
  refine HA.out.mono ?_
  rintro e w2 ⟨nq, uq, qs, zq, nr, ur, rs, zr, rfl, hMq, hMr, hSq, hSr, hE, hbd, hB2⟩
  obtain ⟨pq, cq, rfl⟩ := MU.form hMq
  obtain ⟨pr, cr, rfl⟩ := MU.form hMr
  have HFD := Lib.hid (fdm z1 z2 zq zr hE hbd)
  obtain ⟨Y2, hY2⟩ : ∃ x, (w2.alloc (.cells #[.bool false, .slice none 0 0] 24)).alloc (.cells #[.bool false, .slice none 0 0] 24) = x := ⟨_, rfl⟩
  have hYB : Below w2.heap.size w2 Y2 := by rw [← hY2]; exact ((Below.refl _ _).alloc (Nat.le_refl _) _).alloc (by simp) _
  have hYq : Box2 Y2 w2.heap.size (.bool false) (.slice none 0 0) := by rw [← hY2]; exact (Box2.new _ _ _ _ rfl).alloc _
  have hYr : Box2 Y2 (w2.heap.size + 1) (.bool false) (.slice none 0 0) := by rw [← hY2]; exact Box2.new _ _ _ _ (by simp)
  have yq0 := hYq.c0
  have yq1 := hYq.c1
  have yqf := hYq.f0
  have yqg := hYq.f1
  have hZr := hYr.set2 (show w2.heap.size + 1 ≠ w2.heap.size by omega) (.bool nq) (.slice pq qs.length cq)
  have yr0 := hZr.c0
  have yr1 := hZr.c1
  have yrf := hZr.f0
  have yrg := hZr.f1
  have h4 := four_set (w := Y2) (B := w2.heap.size) (C := w2.heap.size + 1) (show w2.heap.size ≠ w2.heap.size + 1 by omega) (.bool nq) (.slice pq qs.length cq) (.bool nr) (.slice pr rs.length cr) hYq.c0 hYq.c1 hYr.c0 hYr.c1
  obtain ⟨V2, hV2⟩ : ∃ x, ((((Y2.setCell ⟨w2.heap.size, 0, none⟩ (.bool nq)).setCell ⟨w2.heap.size, 1, none⟩ (.slice pq qs.length cq)).setCell ⟨w2.heap.size + 1, 0, none⟩ (.bool nr)).setCell ⟨w2.heap.size + 1, 1, none⟩ (.slice pr rs.length cr)) = x := ⟨_, rfl⟩
  have hB3 : Below w2.heap.size w2 V2 := by rw [← hV2]; exact (((hYB.setCell (Nat.le_refl _) _).setCell (Nat.le_refl _) _).setCell (Nat.le_succ _) _).setCell (Nat.le_succ _) _
  rw [hV2] at h4
  obtain ⟨xq0, xq1, xr0, xr1⟩ := h4
  replace HB := Lib.hid ((HB.out.trans (hB2.mono HB.out.size)).trans (hB3.mono (HB.out.trans (hB2.mono HB.out.size)).size))
  replace HV := Lib.hid ((HV.out.keep hB2).keep hB3)
  have HM2 := Lib.hid (hMq.keep hB3)
  have HS2 := Lib.hid hSq
  have HL2 := Lib.hid (hSq.small.2 (small_fdiv HQS.out HYS.out hE hbd))
  clear hMq hMr hSq hSr hE hbd
  clear hB2 hB3 hYB hYq hYr hZr ga0 ga1 gd0 gd1
  go_upto_region 13 with fail
  (try rw [hV2])
  clear hV2 hY2 yq0 yq1 yqf yqg yr0 yr1 yrf yrg
  go_wp2_with fail
  refine (ints_ok _ _ _ _ V2).mono ?_
  rintro e w3 ⟨rfl, hB3⟩
  replace HB := Lib.hid (HB.out.trans (hB3.mono HB.out.size))
  replace HV := Lib.hid (HV.out.keep hB3)
  replace HM2 := Lib.hid (HM2.out.keep hB3)
  clear hB3
  have vc0 := HV.out.b.c0
  have vf0 := HV.out.f0
  have vc1 := HV.out.b.c1
  have vf1 := HV.out.f1
  have vc2 := HV.out.b.c2
  have vf2 := HV.out.f2
  have vc3 := HV.out.b.c3
  have vf3 := HV.out.f3
  have vc4 := HV.out.b.c4
  have vf4 := HV.out.f4
  have vc5 := HV.out.b.c5
  have vf5 := HV.out.f5
  have vc6 := HV.out.b.c6
  have vf6 := HV.out.f6
  go_wp2_with fail
  have z7 := put7_bx HV.out.b (.int .i64 2) (.bool false) (.bool nq) (.slice pq qs.length cq) (.int .u64 0) (.string ⟨#[]⟩) (.slice none 0 0)
  have zm := put7_mu HM2.out HLT.out (.int .i64 2) (.bool false) (.bool nq) (.slice pq qs.length cq) (.int .u64 0) (.string ⟨#[]⟩) (.slice none 0 0)
  have zb := put7_below HB.out (show w.heap.size ≤ w.heap.size + 2 by omega) (.int .i64 2) (.bool false) (.bool nq) (.slice pq qs.length cq) (.int .u64 0) (.string ⟨#[]⟩) (.slice none 0 0)
  unfold put7 at z7 zm zb
  exact bodyPost_ret (v := .tuple #[.agg #[.int .i64 2, .bool false, .bool nq, .slice pq qs.length cq, .int .u64 0, .string ⟨#[]⟩, .slice none 0 0], .int .i64 0]) (by simp [results, Tryz.results21, go_sem, z7.c0, z7.c1, z7.c2, z7.c3, z7.c4, z7.c5, z7.c6]) rfl ⟨nq, pq, cq, qs, rfl, zm.low (by have := HLT.out; omega), HL2.out, HFD.out.1 ▸ HS2.out, zb⟩
set_option maxRecDepth 100000 in
set_option maxHeartbeats 4000000 in
theorem bw5_zero (n1 : Bool) (u1 : Value) (xs : List Int) (z1 : Int) (n2 : Bool) (u2 : Value) (ys : List Int) (z2 : Int) (w : World) (hr1 : Rd w u1 xs) (hr2 : Rd w u2 ys) (hs1 : Sgn B18 n1 xs z1) (hs2 : Sgn B18 n2 ys z2) (hl1 : xs.length ≤ 30) (hl2 : ys.length ≤ 30) (hy : ys = []) :
    Calls Tryz.prog 21 #[.int .i64 5, .agg #[.bool n1, u1], .agg #[.bool n2, u2]] w (ValT 0 0 0 ⟨#[]⟩ 6 w) := by
  obtain ⟨pA, cA, rfl, hcA, hmA, hpA⟩ := rd_form hr1
  obtain ⟨pB, cB, rfl, hcB, hmB, hpB⟩ := rd_form hr2
  obtain ⟨W1, hW1⟩ : ∃ x, ((w.alloc (.cells #[.bool n1, .slice pA xs.length cA] 24)).alloc (.cells #[.bool n2, .slice pB ys.length cB] 24)).alloc (.cells #[.int .i64 0, .bool false, .bool false, .slice none 0 0, .int .u64 0, .string ⟨#[]⟩, .slice none 0 0] 28) = x := ⟨_, rfl⟩
  have HB := Lib.hid (show Below w.heap.size w W1 by rw [← hW1]; exact (((Below.refl _ _).alloc (Nat.le_refl _) _).alloc (by simp) _).alloc (by simp; omega) _)
  have HXA := Lib.hid (show Box2 W1 w.heap.size (.bool n1) (.slice pA xs.length cA) by rw [← hW1]; exact ((Box2.new _ _ _ _ rfl).alloc _).alloc _)
  have HXB := Lib.hid (show Box2 W1 (w.heap.size + 1) (.bool n2) (.slice pB ys.length cB) by rw [← hW1]; exact (Box2.new _ _ _ _ (by simp)).alloc _)
  have HV := Lib.hid (show Bw7 W1 (w.heap.size + 2) (.int .i64 0) (.bool false) (.bool false) (.slice none 0 0) (.int .u64 0) (.string ⟨#[]⟩) (.slice none 0 0) by rw [← hW1]; exact Bw7.new _ _ _ _ _ _ _ _ _ (by simp))
  have HLT := Lib.hid (World.block_lt_of_cell? _ _ HV.out.b.c0)
  have HA := Lib.hid (div_zero n1 _ xs n2 _ ys W1 (hr1.keep HB.out) hs1.canon.fit (hr2.keep HB.out) hs2.canon.fit (goodB_of hs1 hl1) (goodB_of hs2 hl2) hy)
  clear hr1 hr2 hs1 hs2 hl1 hl2 hy hpA hpB
  have ga0 := HXA.out.c0
  have gd0 := HXB.out.c0
  have ga1 := HXA.out.c1
  have gd1 := HXB.out.c1
  go_enter Tryz.func21, Tryz.ntmps21
  go_wp2_with fail
  (try rw [hW1])
  clear hW1
  refine HA.out.mono ?_
  rintro e w2 ⟨rfl, hB2⟩
  obtain ⟨Y2, hY2⟩ : ∃ x, (w2.alloc (.cells #[.bool false, .slice none 0 0] 24)).alloc (.cells #[.bool false, .slice none 0 0] 24) = x := ⟨_, rfl⟩
  have hYB : Below w2.heap.size w2 Y2 := by rw [← hY2]; exact ((Below.refl _ _).alloc (Nat.le_refl _) _).alloc (by simp) _
  have hYq : Box2 Y2 w2.heap.size (.bool false) (.slice none 0 0) := by rw [← hY2]; exact (Box2.new _ _ _ _ rfl).alloc _
  have hYr : Box2 Y2 (w2.heap.size + 1) (.bool false) (.slice none 0 0) := by rw [← hY2]; exact Box2.new _ _ _ _ (by simp)
  have yq0 := hYq.c0
  have yq1 := hYq.c1
  have yqf := hYq.f0
  have yqg := hYq.f1
  have hZr := hYr.set2 (show w2.heap.size + 1 ≠ w2.heap.size by omega) (.bool false) (.slice none 0 0)
  have yr0 := hZr.c0
  have yr1 := hZr.c1
  have yrf := hZr.f0
  have yrg := hZr.f1
  have h4 := four_set (w := Y2) (B := w2.heap.size) (C := w2.heap.size + 1) (show w2.heap.size ≠ w2.heap.size + 1 by omega) (.bool false) (.slice none 0 0) (.bool false) (.slice none 0 0) hYq.c0 hYq.c1 hYr.c0 hYr.c1
  obtain ⟨V2, hV2⟩ : ∃ x, ((((Y2.setCell ⟨w2.heap.size, 0, none⟩ (.bool false)).setCell ⟨w2.heap.size, 1, none⟩ (.slice none 0 0)).setCell ⟨w2.heap.size + 1, 0, none⟩ (.bool false)).setCell ⟨w2.heap.size + 1, 1, none⟩ (.slice none 0 0)) = x := ⟨_, rfl⟩
  have hB3 : Below w2.heap.size w2 V2 := by rw [← hV2]; exact (((hYB.setCell (Nat.le_refl _) _).setCell (Nat.le_refl _) _).setCell (Nat.le_succ _) _).setCell (Nat.le_succ _) _
  rw [hV2] at h4
  obtain ⟨xq0, xq1, xr0, xr1⟩ := h4
  replace HB := Lib.hid ((HB.out.trans (hB2.mono HB.out.size)).trans (hB3.mono (HB.out.trans (hB2.mono HB.out.size)).size))
  replace HV := Lib.hid ((HV.out.keep hB2).keep hB3)
  clear hB2 hB3 hYB hYq hYr hZr ga0 ga1 gd0 gd1
  go_upto_region 13 with fail
  (try rw [hV2])
  clear hV2 hY2 yq0 yq1 yqf yqg yr0 yr1 yrf yrg
  go_wp2_with fail
  refine (ints_bad false none 0 0 6 (by decide) V2).mono ?_
  rintro e w3 ⟨rfl, hB3⟩
  replace HB := Lib.hid (HB.out.trans (hB3.mono HB.out.size))
  replace HV := Lib.hid (HV.out.keep hB3)
  clear hB3
  have vc0 := HV.out.b.c0
  have vf0 := HV.out.f0
  have vc1 := HV.out.b.c1
  have vf1 := HV.out.f1
  have vc2 := HV.out.b.c2
  have vf2 := HV.out.f2
  have vc3 := HV.out.b.c3
  have vf3 := HV.out.f3
  have vc4 := HV.out.b.c4
  have vf4 := HV.out.f4
  have vc5 := HV.out.b.c5
  have vf5 := HV.out.f5
  have vc6 := HV.out.b.c6
  have vf6 := HV.out.f6
  go_wp2_with fail
  have z7 := put7_bx HV.out.b (.int .i64 0) (.bool false) (.bool false) (.slice none 0 0) (.int .u64 0) (.string ⟨#[]⟩) (.slice none 0 0)
  have zb := put7_below HB.out (show w.heap.size ≤ w.heap.size + 2 by omega) (.int .i64 0) (.bool false) (.bool false) (.slice none 0 0) (.int .u64 0) (.string ⟨#[]⟩) (.slice none 0 0)
  unfold put7 at z7 zb
  exact bodyPost_ret (v := .tuple #[.agg #[.int .i64 0, .bool false, .bool false, .slice none 0 0, .int .u64 0, .string ⟨#[]⟩, .slice none 0 0], .int .i64 6]) (by simp [results, Tryz.results21, go_sem, z7.c0, z7.c1, z7.c2, z7.c3, z7.c4, z7.c5, z7.c6]) rfl (valt_none zb)
set_option maxRecDepth 100000 in
set_option maxHeartbeats 4000000 in
theorem bw6_ok (n1 : Bool) (u1 : Value) (xs : List Int) (z1 : Int) (n2 : Bool) (u2 : Value) (ys : List Int) (z2 : Int) (w : World) (hr1 : Rd w u1 xs) (hr2 : Rd w u2 ys) (hs1 : Sgn B18 n1 xs z1) (hs2 : Sgn B18 n2 ys z2) (hl1 : xs.length ≤ 30) (hl2 : ys.length ≤ 30) (hy : 0 < ys.length) :
    Calls Tryz.prog 21 #[.int .i64 6, .agg #[.bool n1, u1], .agg #[.bool n2, u2]] w (ValT 2 (Int.fmod z1 z2) 0 ⟨#[]⟩ 0 w) := by
  obtain ⟨pA, cA, rfl, hcA, hmA, hpA⟩ := rd_form hr1
  obtain ⟨pB, cB, rfl, hcB, hmB, hpB⟩ := rd_form hr2
  obtain ⟨W1, hW1⟩ : ∃ x, ((w.alloc (.cells #[.bool n1, .slice pA xs.length cA] 24)).alloc (.cells #[.bool n2, .slice pB ys.length cB] 24)).alloc (.cells #[.int .i64 0, .bool false, .bool false, .slice none 0 0, .int .u64 0, .string ⟨#[]⟩, .slice none 0 0] 28) = x := ⟨_, rfl⟩
  have HB := Lib.hid (show Below w.heap.size w W1 by rw [← hW1]; exact (((Below.refl _ _).alloc (Nat.le_refl _) _).alloc (by simp) _).alloc (by simp; omega) _)
  have HXA := Lib.hid (show Box2 W1 w.heap.size (.bool n1) (.slice pA xs.length cA) by rw [← hW1]; exact ((Box2.new _ _ _ _ rfl).alloc _).alloc _)
  have HXB := Lib.hid (show Box2 W1 (w.heap.size + 1) (.bool n2) (.slice pB ys.length cB) by rw [← hW1]; exact (Box2.new _ _ _ _ (by simp)).alloc _)
  have HV := Lib.hid (show Bw7 W1 (w.heap.size + 2) (.int .i64 0) (.bool false) (.bool false) (.slice none 0 0) (.int .u64 0) (.string ⟨#[]⟩) (.slice none 0 0) by rw [← hW1]; exact Bw7.new _ _ _ _ _ _ _ _ _ (by simp))
  have HLT := Lib.hid (World.block_lt_of_cell? _ _ HV.out.b.c0)
  have HA := Lib.hid (div_good n1 _ xs z1 n2 _ ys z2 W1 (hr1.keep HB.out) (hr2.keep HB.out) hs1 hs2 hl1 hl2 hy)
  have HQS := Lib.hid (hs1.small.1 hl1)
  have HYS := Lib.hid (hs2.small.1 hl2)
  clear hr1 hr2 hs1 hs2 hl1 hl2 hy hpA hpB
  have ga0 := HXA.out.c0
  have gd0 := HXB.out.c0
  have ga1 := HXA.out.c1
  have gd1 := HXB.out.c1
  go_enter Tryz.func21, Tryz.ntmps21
  go_wp2_with fail
  (try rw [hW1])
  clear hW1
  refine HA.out.mono ?_
  rintro e w2 ⟨nq, uq, qs, zq, nr, ur, rs, zr, rfl, hMq, hMr, hSq, hSr, hE, hbd, hB2⟩
  obtain ⟨pq, cq, rfl⟩ := MU.form hMq
  obtain ⟨pr, cr, rfl⟩ := MU.form hMr
  have HFD := Lib.hid (fdm z1 z2 zq zr hE hbd)
  obtain ⟨Y2, hY2⟩ : ∃ x, (w2.alloc (.cells #[.bool false, .slice none 0 0] 24)).alloc (.cells #[.bool false, .slice none 0 0] 24) = x := ⟨_, rfl⟩
  have hYB : Below w2.heap.size w2 Y2 := by rw [← hY2]; exact ((Below.refl _ _).alloc (Nat.le_refl _) _).alloc (by simp) _
  have hYq : Box2 Y2 w2.heap.size (.bool false) (.slice none 0 0) := by rw [← hY2]; exact (Box2.new _ _ _ _ rfl).alloc _
  have hYr : Box2 Y2 (w2.heap.size + 1) (.bool false) (.slice none 0 0) := by rw [← hY2]; exact Box2.new _ _ _ _ (by simp)
  have yq0 := hYq.c0
  have yq1 := hYq.c1
  have yqf := hYq.f0
  have yqg := hYq.f1
  have hZr := hYr.set2 (show w2.heap.size + 1 ≠ w2.heap.size by omega) (.bool nq) (.slice pq qs.length cq)
  have yr0 := hZr.c0
  have yr1 := hZr.c1
  have yrf := hZr.f0
  have yrg := hZr.f1
  have h4 := four_set (w := Y2) (B := w2.heap.size) (C := w2.heap.size + 1) (show w2.heap.size ≠ w2.heap.size + 1 by omega) (.bool nq) (.slice pq qs.length cq) (.bool nr) (.slice pr rs.length cr) hYq.c0 hYq.c1 hYr.c0 hYr.c1
  obtain ⟨V2, hV2⟩ : ∃ x, ((((Y2.setCell ⟨w2.heap.size, 0, none⟩ (.bool nq)).setCell ⟨w2.heap.size, 1, none⟩ (.slice pq qs.length cq)).setCell ⟨w2.heap.size + 1, 0, none⟩ (.bool nr)).setCell ⟨w2.heap.size + 1, 1, none⟩ (.slice pr rs.length cr)) = x := ⟨_, rfl⟩
  have hB3 : Below w2.heap.size w2 V2 := by rw [← hV2]; exact (((hYB.setCell (Nat.le_refl _) _).setCell (Nat.le_refl _) _).setCell (Nat.le_succ _) _).setCell (Nat.le_succ _) _
  rw [hV2] at h4
  obtain ⟨xq0, xq1, xr0, xr1⟩ := h4
  replace HB := Lib.hid ((HB.out.trans (hB2.mono HB.out.size)).trans (hB3.mono (HB.out.trans (hB2.mono HB.out.size)).size))
  replace HV := Lib.hid ((HV.out.keep hB2).keep hB3)
  have HM2 := Lib.hid (hMr.keep hB3)
  have HS2 := Lib.hid hSr
  have HL2 := Lib.hid (hSr.small.2 (small_fmod HQS.out HYS.out hE hbd))
  clear hMq hMr hSq hSr hE hbd
  clear hB2 hB3 hYB hYq hYr hZr ga0 ga1 gd0 gd1
  go_upto_region 13 with fail
  (try rw [hV2])
  clear hV2 hY2 yq0 yq1 yqf yqg yr0 yr1 yrf yrg
  go_wp2_with fail
  refine (ints_ok _ _ _ _ V2).mono ?_
  rintro e w3 ⟨rfl, hB3⟩
  replace HB := Lib.hid (HB.out.trans (hB3.mono HB.out.size))
  replace HV := Lib.hid (HV.out.keep hB3)
  replace HM2 := Lib.hid (HM2.out.keep hB3)
  clear hB3
  have vc0 := HV.out.b.c0
  have vf0 := HV.out.f0
  have vc1 := HV.out.b.c1
  have vf1 := HV.out.f1
  have vc2 := HV.out.b.c2
  have vf2 := HV.out.f2
  have vc3 := HV.out.b.c3
  have vf3 := HV.out.f3
  have vc4 := HV.out.b.c4
  have vf4 := HV.out.f4
  have vc5 := HV.out.b.c5
  have vf5 := HV.out.f5
  have vc6 := HV.out.b.c6
  have vf6 := HV.out.f6
  go_wp2_with fail
  have z7 := put7_bx HV.out.b (.int .i64 2) (.bool false) (.bool nr) (.slice pr rs.length cr) (.int .u64 0) (.string ⟨#[]⟩) (.slice none 0 0)
  have zm := put7_mu HM2.out HLT.out (.int .i64 2) (.bool false) (.bool nr) (.slice pr rs.length cr) (.int .u64 0) (.string ⟨#[]⟩) (.slice none 0 0)
  have zb := put7_below HB.out (show w.heap.size ≤ w.heap.size + 2 by omega) (.int .i64 2) (.bool false) (.bool nr) (.slice pr rs.length cr) (.int .u64 0) (.string ⟨#[]⟩) (.slice none 0 0)
  unfold put7 at z7 zm zb
  exact bodyPost_ret (v := .tuple #[.agg #[.int .i64 2, .bool false, .bool nr, .slice pr rs.length cr, .int .u64 0, .string ⟨#[]⟩, .slice none 0 0], .int .i64 0]) (by simp [results, Tryz.results21, go_sem, z7.c0, z7.c1, z7.c2, z7.c3, z7.c4, z7.c5, z7.c6]) rfl ⟨nr, pr, cr, rs, rfl, zm.low (by have := HLT.out; omega), HL2.out, HFD.out.2 ▸ HS2.out, zb⟩
set_option maxRecDepth 100000 in
set_option maxHeartbeats 4000000 in
theorem bw6_zero (n1 : Bool) (u1 : Value) (xs : List Int) (z1 : Int) (n2 : Bool) (u2 : Value) (ys : List Int) (z2 : Int) (w : World) (hr1 : Rd w u1 xs) (hr2 : Rd w u2 ys) (hs1 : Sgn B18 n1 xs z1) (hs2 : Sgn B18 n2 ys z2) (hl1 : xs.length ≤ 30) (hl2 : ys.length ≤ 30) (hy : ys = []) :
    Calls Tryz.prog 21 #[.int .i64 6, .agg #[.bool n1, u1], .agg #[.bool n2, u2]] w (ValT 0 0 0 ⟨#[]⟩ 6 w) := by
  obtain ⟨pA, cA, rfl, hcA, hmA, hpA⟩ := rd_form hr1
  obtain ⟨pB, cB, rfl, hcB, hmB, hpB⟩ := rd_form hr2
  obtain ⟨W1, hW1⟩ : ∃ x, ((w.alloc (.cells #[.bool n1, .slice pA xs.length cA] 24)).alloc (.cells #[.bool n2, .slice pB ys.length cB] 24)).alloc (.cells #[.int .i64 0, .bool false, .bool false, .slice none 0 0, .int .u64 0, .string ⟨#[]⟩, .slice none 0 0] 28) = x := ⟨_, rfl⟩
  have HB := Lib.hid (show Below w.heap.size w W1 by rw [← hW1]; exact (((Below.refl _ _).alloc (Nat.le_refl _) _).alloc (by simp) _).alloc (by simp; omega) _)
  have HXA := Lib.hid (show Box2 W1 w.heap.size (.bool n1) (.slice pA xs.length cA) by rw [← hW1]; exact ((Box2.new _ _ _ _ rfl).alloc _).alloc _)
  have HXB := Lib.hid (show Box2 W1 (w.heap.size + 1) (.bool n2) (.slice pB ys.length cB) by rw [← hW1]; exact (Box2.new _ _ _ _ (by simp)).alloc _)
  have HV := Lib.hid (show Bw7 W1 (w.heap.size + 2) (.int .i64 0) (.bool false) (.bool false) (.slice none 0 0) (.int .u64 0) (.string ⟨#[]⟩) (.slice none 0 0) by rw [← hW1]; exact Bw7.new _ _ _ _ _ _ _ _ _ (by simp))
  have HLT := Lib.hid (World.block_lt_of_cell? _ _ HV.out.b.c0)
  have HA := Lib.hid (div_zero n1 _ xs n2 _ ys W1 (hr1.keep HB.out) hs1.canon.fit (hr2.keep HB.out) hs2.canon.fit (goodB_of hs1 hl1) (goodB_of hs2 hl2) hy)
  clear hr1 hr2 hs1 hs2 hl1 hl2 hy hpA hpB
  have ga0 := HXA.out.c0
  have gd0 := HXB.out.c0
  have ga1 := HXA.out.c1
  have gd1 := HXB.out.c1
  go_enter Tryz.func21, Tryz.ntmps21
  go_wp2_with fail
  (try rw [hW1])
  clear hW1
  refine HA.out.mono ?_
  rintro e w2 ⟨rfl, hB2⟩
  obtain ⟨Y2, hY2⟩ : ∃ x, (w2.alloc (.cells #[.bool false, .slice none 0 0] 24)).alloc (.cells #[.bool false, .slice none 0 0] 24) = x := ⟨_, rfl⟩
  have hYB : Below w2.heap.size w2 Y2 := by rw [← hY2]; exact ((Below.refl _ _).alloc (Nat.le_refl _) _).alloc (by simp) _
  have hYq : Box2 Y2 w2.heap.size (.bool false) (.slice none 0 0) := by rw [← hY2]; exact (Box2.new _ _ _ _ rfl).alloc _
  have hYr : Box2 Y2 (w2.heap.size + 1) (.bool false) (.slice none 0 0) := by rw [← hY2]; exact Box2.new _ _ _ _ (by simp)
  have yq0 := hYq.c0
  have yq1 := hYq.c1
  have yqf := hYq.f0
  have yqg := hYq.f1
  have hZr := hYr.set2 (show w2.heap.size + 1 ≠ w2.heap.size by omega) (.bool false) (.slice none 0 0)
  have yr0 := hZr.c0
  have yr1 := hZr.c1
  have yrf := hZr.f0
  have yrg := hZr.f1
  have h4 := four_set (w := Y2) (B := w2.heap.size) (C := w2.heap.size + 1) (show w2.heap.size ≠ w2.heap.size + 1 by omega) (.bool false) (.slice none 0 0) (.bool false) (.slice none 0 0) hYq.c0 hYq.c1 hYr.c0 hYr.c1
  obtain ⟨V2, hV2⟩ : ∃ x, ((((Y2.setCell ⟨w2.heap.size, 0, none⟩ (.bool false)).setCell ⟨w2.heap.size, 1, none⟩ (.slice none 0 0)).setCell ⟨w2.heap.size + 1, 0, none⟩ (.bool false)).setCell ⟨w2.heap.size + 1, 1, none⟩ (.slice none 0 0)) = x := ⟨_, rfl⟩
  have hB3 : Below w2.heap.size w2 V2 := by rw [← hV2]; exact (((hYB.setCell (Nat.le_refl _) _).setCell (Nat.le_refl _) _).setCell (Nat.le_succ _) _).setCell (Nat.le_succ _) _
  rw [hV2] at h4
  obtain ⟨xq0, xq1, xr0, xr1⟩ := h4
  replace HB := Lib.hid ((HB.out.trans (hB2.mono HB.out.size)).trans (hB3.mono (HB.out.trans (hB2.mono HB.out.size)).size))
  replace HV := Lib.hid ((HV.out.keep hB2).keep hB3)
  clear hB2 hB3 hYB hYq hYr hZr ga0 ga1 gd0 gd1
  go_upto_region 13 with fail
  (try rw [hV2])
  clear hV2 hY2 yq0 yq1 yqf yqg yr0 yr1 yrf yrg
  go_wp2_with fail
  refine (ints_bad false none 0 0 6 (by decide) V2).mono ?_
  rintro e w3 ⟨rfl, hB3⟩
  replace HB := Lib.hid (HB.out.trans (hB3.mono HB.out.size))
  replace HV := Lib.hid (HV.out.keep hB3)
  clear hB3
  have vc0 := HV.out.b.c0
  have vf0 := HV.out.f0
  have vc1 := HV.out.b.c1
  have vf1 := HV.out.f1
  have vc2 := HV.out.b.c2
  have vf2 := HV.out.f2
  have vc3 := HV.out.b.c3
  have vf3 := HV.out.f3
  have vc4 := HV.out.b.c4
  have vf4 := HV.out.f4
  have vc5 := HV.out.b.c5
  have vf5 := HV.out.f5
  have vc6 := HV.out.b.c6
  have vf6 := HV.out.f6
  go_wp2_with fail
  have z7 := put7_bx HV.out.b (.int .i64 0) (.bool false) (.bool false) (.slice none 0 0) (.int .u64 0) (.string ⟨#[]⟩) (.slice none 0 0)
  have zb := put7_below HB.out (show w.heap.size ≤ w.heap.size + 2 by omega) (.int .i64 0) (.bool false) (.bool false) (.slice none 0 0) (.int .u64 0) (.string ⟨#[]⟩) (.slice none 0 0)
  unfold put7 at z7 zb
  exact bodyPost_ret (v := .tuple #[.agg #[.int .i64 0, .bool false, .bool false, .slice none 0 0, .int .u64 0, .string ⟨#[]⟩, .slice none 0 0], .int .i64 6]) (by simp [results, Tryz.results21, go_sem, z7.c0, z7.c1, z7.c2, z7.c3, z7.c4, z7.c5, z7.c6]) rfl (valt_none zb)
end Go.Proofs.YtpebnofjcodikaaGreatDoor
