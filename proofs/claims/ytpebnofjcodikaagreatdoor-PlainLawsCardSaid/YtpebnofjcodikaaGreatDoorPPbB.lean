/- Layer 15: plain.Bin of what the laws ask, plain.repeat, plain.binFloat. -/
import Derived.Test.YtpebnofjcodikaaGreatDoorPPbA
import Derived.Test.YtpebnofjcodikaaGreatDoorPPtB
import Derived.Test.YtpebnofjcodikaaGreatDoorPGWk
import Derived.Test.YtpebnofjcodikaaGreatDoorPGRlF
import Derived.Test.YtpebnofjcodikaaGreatDoorShelfP
namespace Go.Proofs.YtpebnofjcodikaaGreatDoor
open Go Go.ChangeShapes Go.WideShapes Go.ChangeAt Go.RowKit
set_option linter.unusedVariables false
set_option linter.unusedSimpArgs false
theorem be_emptyB (B : ByteArray) : B.toList.isEmpty = decide (B.size = 0) := by
  obtain ⟨⟨l⟩⟩ := B
  have e : (ByteArray.mk ⟨l⟩).toList = l := by simp
  rw [e]
  cases l <;> simp [ByteArray.size]
theorem pre2 (w : World) (v0 v1 v2 v3 v4 v5 v6 t0 t1 t2 t3 t4 t5 t6 : Value) : ∃ W1, ((w.alloc (.cells #[v0, v1, v2, v3, v4, v5, v6] 28)).alloc (.cells #[t0, t1, t2, t3, t4, t5, t6] 28)).alloc (.cells #[.int .i64 0, .bool false, .bool false, .slice none 0 0, .int .u64 0, .string ⟨#[]⟩, .slice none 0 0] 28) = W1 ∧ Hid (Below w.heap.size w W1) ∧ Hid (Bx7 W1 w.heap.size v0 v1 v2 v3 v4 v5 v6) ∧ Hid (Bx7 W1 (w.heap.size + 1) t0 t1 t2 t3 t4 t5 t6) ∧ Hid (Bw7 W1 (w.heap.size + 2) (.int .i64 0) (.bool false) (.bool false) (.slice none 0 0) (.int .u64 0) (.string ⟨#[]⟩) (.slice none 0 0)) ∧ Hid (w.heap.size + 2 < W1.heap.size) :=
  ⟨_, rfl, (((Below.refl _ _).alloc (Nat.le_refl _) _).alloc (by simp) _).alloc (by simp; omega) _, ((Bx7.new w _ _ _ _ _ _ _ _ rfl).keep ((Below.refl _ _).alloc (Nat.le_refl _) _)).keep ((Below.refl _ _).alloc (Nat.le_refl _) _), (Bx7.new _ _ _ _ _ _ _ _ _ (by simp)).keep ((Below.refl _ _).alloc (Nat.le_refl _) _), Bw7.new _ _ _ _ _ _ _ _ _ (by simp), World.block_lt_of_cell? _ _ (Bw7.new _ _ _ _ _ _ _ _ _ (by simp)).b.c0⟩
theorem keep2all {w cur new : World} {A B C : Nat} {v0 v1 v2 v3 v4 v5 v6 t0 t1 t2 t3 t4 t5 t6 z0 z1 z2 z3 z4 z5 z6 u u' : Value} {ws ws' : List Int} (h : Below cur.heap.size cur new) (h1 : Hid (Below w.heap.size w cur)) (h2 : Hid (Bx7 cur A v0 v1 v2 v3 v4 v5 v6)) (h3 : Hid (Bx7 cur B t0 t1 t2 t3 t4 t5 t6)) (h4 : Hid (Bw7 cur C z0 z1 z2 z3 z4 z5 z6)) (h5 : Hid (Rd cur u ws)) (h6 : Hid (Rd cur u' ws')) : Hid (Below w.heap.size w new) ∧ Hid (Bx7 new A v0 v1 v2 v3 v4 v5 v6) ∧ Hid (Bx7 new B t0 t1 t2 t3 t4 t5 t6) ∧ Hid (Bw7 new C z0 z1 z2 z3 z4 z5 z6) ∧ Hid (Rd new u ws) ∧ Hid (Rd new u' ws') ∧ Bx7 new A v0 v1 v2 v3 v4 v5 v6 ∧ Bx7 new B t0 t1 t2 t3 t4 t5 t6 :=
  ⟨h1.out.trans (h.mono h1.out.size), h2.out.keep h, h3.out.keep h, h4.out.keep h, h5.out.keep h, h6.out.keep h, h2.out.keep h, h3.out.keep h⟩
theorem fin7b {w cur : World} {z0 z1 z2 z3 z4 z5 z6 : Value} (h : Hid (Bw7 cur (w.heap.size + 2) z0 z1 z2 z3 z4 z5 z6)) (h1 : Hid (Below w.heap.size w cur)) (v0 v1 v2 v3 v4 v5 v6 : Value) : Bx7 (put7 cur (w.heap.size + 2) v0 v1 v2 v3 v4 v5 v6) (w.heap.size + 2) v0 v1 v2 v3 v4 v5 v6 ∧ Below w.heap.size w (put7 cur (w.heap.size + 2) v0 v1 v2 v3 v4 v5 v6) :=
  ⟨put7_bx h.out.b _ _ _ _ _ _ _, put7_below h1.out (by omega) _ _ _ _ _ _ _⟩
set_option maxRecDepth 100000 in
set_option maxHeartbeats 8000000 in
theorem bin_badA (op : Int) (kA : Int) (yA nA : Bool) (uA : Value) (sA : List Int) (bA : Nat) (xA : ByteArray) (pAi : Option Addr) (mA cAi : Nat) (kB : Int) (yB nB : Bool) (uB : Value) (sB : List Int) (bB : Nat) (xB : ByteArray) (pBi : Option Addr) (mB cBi : Nat) (w : World) (hrA : Rd w uA sA) (hfA : Fit sA) (hbA : bA < 18446744073709551616) (hmA : (mA : Int) ≤ 9223372036854775807) (hxA : (xA.size : Int) ≤ 9223372036854775807) (hrB : Rd w uB sB) (hfB : Fit sB) (hbB : bB < 18446744073709551616) (hmB : (mB : Int) ≤ 9223372036854775807) (hxB : (xB.size : Int) ≤ 9223372036854775807) (hgA : goodP kA yA nA sA bA xA mA = false) :
    Calls Tryz.prog 5 #[.int .i64 op, .agg #[.int .i64 kA, .bool yA, .bool nA, uA, .int .u64 (bA : Int), .string xA, .slice pAi mA cAi], .agg #[.int .i64 kB, .bool yB, .bool nB, uB, .int .u64 (bB : Int), .string xB, .slice pBi mB cBi]] w (ValT 0 0 0 ⟨#[]⟩ 3 w) := by
  obtain ⟨pA, cA, rfl, hcA, hvA, hpA⟩ := rd_form hrA
  obtain ⟨pB, cB, rfl, hcB, hvB, hpB⟩ := rd_form hrB
  obtain ⟨W1, hW1, HB, HXA, HXB, HV, HLT⟩ := pre2 w (.int .i64 kA) (.bool yA) (.bool nA) (.slice pA sA.length cA) (.int .u64 (bA : Int)) (.string xA) (.slice pAi mA cAi) (.int .i64 kB) (.bool yB) (.bool nB) (.slice pB sB.length cB) (.int .u64 (bB : Int)) (.string xB) (.slice pBi mB cBi)
  have HRA := Lib.hid (hrA.keep HB.out)
  have HRB := Lib.hid (hrB.keep HB.out)
  have HGA := Lib.hid (fun (W : World) (hx : Rd W (.slice pA sA.length cA) sA) => good15_any kA yA nA _ sA bA xA pAi mA cAi W hbA hx hfA hmA hxA)
  rw [hgA] at HGA
  clear hrA hrB hfA hfB hpA hpB hbA hbB hmA hmB hxA hxB hgA
  obtain ⟨fa0, fa1, fa2, fa3, fa4, fa5, fa6⟩ := HXA.out
  obtain ⟨fd0, fd1, fd2, fd3, fd4, fd5, fd6⟩ := HXB.out
  go_enter Tryz.func5, Tryz.ntmps5
  go_wp2_with (first
    | (go_at_call 19; (try rw [hW1]); (with_reducible refine (HGA.out _ HRA.out).mono ?_); rintro e vn ⟨rfl, hvv⟩; obtain ⟨HB, HXA, HXB, HV, HRA, HRB, ⟨fa0, fa1, fa2, fa3, fa4, fa5, fa6⟩, fd0, fd1, fd2, fd3, fd4, fd5, fd6⟩ := keep2all hvv HB HXA HXB HV HRA HRB; obtain ⟨⟨vc0, vc1, vc2, vc3, vc4, vc5, vc6⟩, vf0, vf1, vf2, vf3, vf4, vf5, vf6⟩ := HV.out; clear hvv)
    | fail)
  obtain ⟨z7, zb⟩ := fin7b HV HB (.int .i64 0) (.bool false) (.bool false) (.slice none 0 0) (.int .u64 0) (.string ⟨#[]⟩) (.slice none 0 0)
  unfold put7 at z7 zb
  exact bodyPost_ret (v := .tuple #[.agg #[.int .i64 0, .bool false, .bool false, .slice none 0 0, .int .u64 0, .string ⟨#[]⟩, .slice none 0 0], .int .i64 3]) (by simp [results, Tryz.results5, go_sem, z7.c0, z7.c1, z7.c2, z7.c3, z7.c4, z7.c5, z7.c6]) rfl (valt_none zb)
set_option maxRecDepth 100000 in
set_option maxHeartbeats 8000000 in
theorem bin_badB (op : Int) (kA : Int) (yA nA : Bool) (uA : Value) (sA : List Int) (bA : Nat) (xA : ByteArray) (pAi : Option Addr) (mA cAi : Nat) (kB : Int) (yB nB : Bool) (uB : Value) (sB : List Int) (bB : Nat) (xB : ByteArray) (pBi : Option Addr) (mB cBi : Nat) (w : World) (hrA : Rd w uA sA) (hfA : Fit sA) (hbA : bA < 18446744073709551616) (hmA : (mA : Int) ≤ 9223372036854775807) (hxA : (xA.size : Int) ≤ 9223372036854775807) (hrB : Rd w uB sB) (hfB : Fit sB) (hbB : bB < 18446744073709551616) (hmB : (mB : Int) ≤ 9223372036854775807) (hxB : (xB.size : Int) ≤ 9223372036854775807) (hgA : goodP kA yA nA sA bA xA mA = true) (hgB : goodP kB yB nB sB bB xB mB = false) :
    Calls Tryz.prog 5 #[.int .i64 op, .agg #[.int .i64 kA, .bool yA, .bool nA, uA, .int .u64 (bA : Int), .string xA, .slice pAi mA cAi], .agg #[.int .i64 kB, .bool yB, .bool nB, uB, .int .u64 (bB : Int), .string xB, .slice pBi mB cBi]] w (ValT 0 0 0 ⟨#[]⟩ 3 w) := by
  obtain ⟨pA, cA, rfl, hcA, hvA, hpA⟩ := rd_form hrA
  obtain ⟨pB, cB, rfl, hcB, hvB, hpB⟩ := rd_form hrB
  obtain ⟨W1, hW1, HB, HXA, HXB, HV, HLT⟩ := pre2 w (.int .i64 kA) (.bool yA) (.bool nA) (.slice pA sA.length cA) (.int .u64 (bA : Int)) (.string xA) (.slice pAi mA cAi) (.int .i64 kB) (.bool yB) (.bool nB) (.slice pB sB.length cB) (.int .u64 (bB : Int)) (.string xB) (.slice pBi mB cBi)
  have HRA := Lib.hid (hrA.keep HB.out)
  have HRB := Lib.hid (hrB.keep HB.out)
  have HGA := Lib.hid (fun (W : World) (hx : Rd W (.slice pA sA.length cA) sA) => good15_any kA yA nA _ sA bA xA pAi mA cAi W hbA hx hfA hmA hxA)
  rw [hgA] at HGA
  have HGB := Lib.hid (fun (W : World) (hx : Rd W (.slice pB sB.length cB) sB) => good15_any kB yB nB _ sB bB xB pBi mB cBi W hbB hx hfB hmB hxB)
  rw [hgB] at HGB
  clear hrA hrB hfA hfB hpA hpB hbA hbB hmA hmB hxA hxB hgA hgB
  obtain ⟨fa0, fa1, fa2, fa3, fa4, fa5, fa6⟩ := HXA.out
  obtain ⟨fd0, fd1, fd2, fd3, fd4, fd5, fd6⟩ := HXB.out
  go_enter Tryz.func5, Tryz.ntmps5
  go_wp2_with (first
    | (go_at_call 19; (try rw [hW1]); (with_reducible refine (HGA.out _ HRA.out).mono ?_); rintro e vn ⟨rfl, hvv⟩; obtain ⟨HB, HXA, HXB, HV, HRA, HRB, ⟨fa0, fa1, fa2, fa3, fa4, fa5, fa6⟩, fd0, fd1, fd2, fd3, fd4, fd5, fd6⟩ := keep2all hvv HB HXA HXB HV HRA HRB; clear hvv)
    | (go_at_call 19; (try rw [hW1]); (with_reducible refine (HGB.out _ HRB.out).mono ?_); rintro e vn ⟨rfl, hvv⟩; obtain ⟨HB, HXA, HXB, HV, HRA, HRB, ⟨fa0, fa1, fa2, fa3, fa4, fa5, fa6⟩, fd0, fd1, fd2, fd3, fd4, fd5, fd6⟩ := keep2all hvv HB HXA HXB HV HRA HRB; obtain ⟨⟨vc0, vc1, vc2, vc3, vc4, vc5, vc6⟩, vf0, vf1, vf2, vf3, vf4, vf5, vf6⟩ := HV.out; clear hvv)
    | fail)
  obtain ⟨z7, zb⟩ := fin7b HV HB (.int .i64 0) (.bool false) (.bool false) (.slice none 0 0) (.int .u64 0) (.string ⟨#[]⟩) (.slice none 0 0)
  unfold put7 at z7 zb
  exact bodyPost_ret (v := .tuple #[.agg #[.int .i64 0, .bool false, .bool false, .slice none 0 0, .int .u64 0, .string ⟨#[]⟩, .slice none 0 0], .int .i64 3]) (by simp [results, Tryz.results5, go_sem, z7.c0, z7.c1, z7.c2, z7.c3, z7.c4, z7.c5, z7.c6]) rfl (valt_none zb)
set_option maxRecDepth 100000 in
set_option maxHeartbeats 8000000 in
theorem bin_typ0 (yA nA : Bool) (uA : Value) (sA : List Int) (bA : Nat) (xA : ByteArray) (pAi : Option Addr) (mA cAi : Nat) (kB : Int) (yB nB : Bool) (uB : Value) (sB : List Int) (bB : Nat) (xB : ByteArray) (pBi : Option Addr) (mB cBi : Nat) (w : World) (hrA : Rd w uA sA) (hfA : Fit sA) (hbA : bA < 18446744073709551616) (hmA : (mA : Int) ≤ 9223372036854775807) (hxA : (xA.size : Int) ≤ 9223372036854775807) (hrB : Rd w uB sB) (hfB : Fit sB) (hbB : bB < 18446744073709551616) (hmB : (mB : Int) ≤ 9223372036854775807) (hxB : (xB.size : Int) ≤ 9223372036854775807) (hgA : goodP 0 yA nA sA bA xA mA = true) (hgB : goodP kB yB nB sB bB xB mB = true)  :
    Calls Tryz.prog 5 #[.int .i64 1, .agg #[.int .i64 0, .bool yA, .bool nA, uA, .int .u64 (bA : Int), .string xA, .slice pAi mA cAi], .agg #[.int .i64 kB, .bool yB, .bool nB, uB, .int .u64 (bB : Int), .string xB, .slice pBi mB cBi]] w (ValT 0 0 0 ⟨#[]⟩ 9 w) := by
  obtain ⟨pA, cA, rfl, hcA, hvA, hpA⟩ := rd_form hrA
  obtain ⟨pB, cB, rfl, hcB, hvB, hpB⟩ := rd_form hrB
  obtain ⟨W1, hW1, HB, HXA, HXB, HV, HLT⟩ := pre2 w (.int .i64 0) (.bool yA) (.bool nA) (.slice pA sA.length cA) (.int .u64 (bA : Int)) (.string xA) (.slice pAi mA cAi) (.int .i64 kB) (.bool yB) (.bool nB) (.slice pB sB.length cB) (.int .u64 (bB : Int)) (.string xB) (.slice pBi mB cBi)
  have HRA := Lib.hid (hrA.keep HB.out)
  have HRB := Lib.hid (hrB.keep HB.out)
  have HGA := Lib.hid (fun (W : World) (hx : Rd W (.slice pA sA.length cA) sA) => good15_any 0 yA nA _ sA bA xA pAi mA cAi W hbA hx hfA hmA hxA)
  rw [hgA] at HGA
  have HGB := Lib.hid (fun (W : World) (hx : Rd W (.slice pB sB.length cB) sB) => good15_any kB yB nB _ sB bB xB pBi mB cBi W hbB hx hfB hmB hxB)
  rw [hgB] at HGB
  have HWA := Lib.hid (fun (W : World) => isWhole_any 0 yA nA (.slice pA sA.length cA) bA xA (.slice pAi mA cAi) W)
  rw [show wholeP 0 = false from (by decide)] at HWA
  have HNA := Lib.hid (fun (W : World) => isNumber_any 0 yA nA (.slice pA sA.length cA) bA xA (.slice pAi mA cAi) W)
  rw [show numP 0 = false from (by decide)] at HNA
  clear hrA hrB hfA hfB hpA hpB hbA hbB hmA hmB hxA hxB hgA hgB
  obtain ⟨fa0, fa1, fa2, fa3, fa4, fa5, fa6⟩ := HXA.out
  obtain ⟨fd0, fd1, fd2, fd3, fd4, fd5, fd6⟩ := HXB.out
  go_enter Tryz.func5, Tryz.ntmps5
  go_wp2_with (first
    | (go_at_call 19; (try rw [hW1]); (with_reducible refine (HGA.out _ HRA.out).mono ?_); rintro e vn ⟨rfl, hvv⟩; obtain ⟨HB, HXA, HXB, HV, HRA, HRB, ⟨fa0, fa1, fa2, fa3, fa4, fa5, fa6⟩, fd0, fd1, fd2, fd3, fd4, fd5, fd6⟩ := keep2all hvv HB HXA HXB HV HRA HRB; clear hvv)
    | (go_at_call 19; (try rw [hW1]); (with_reducible refine (HGB.out _ HRB.out).mono ?_); rintro e vn ⟨rfl, hvv⟩; obtain ⟨HB, HXA, HXB, HV, HRA, HRB, ⟨fa0, fa1, fa2, fa3, fa4, fa5, fa6⟩, fd0, fd1, fd2, fd3, fd4, fd5, fd6⟩ := keep2all hvv HB HXA HXB HV HRA HRB; clear hvv)
    | (go_at_call 20; (try rw [hW1]); (with_reducible refine (HWA.out _).mono ?_); rintro e vn ⟨rfl, hvv⟩; obtain ⟨HB, HXA, HXB, HV, HRA, HRB, ⟨fa0, fa1, fa2, fa3, fa4, fa5, fa6⟩, fd0, fd1, fd2, fd3, fd4, fd5, fd6⟩ := keep2all hvv HB HXA HXB HV HRA HRB; clear hvv)
    | (go_at_call 23; (try rw [hW1]); (with_reducible refine (HNA.out _).mono ?_); rintro e vn ⟨rfl, hvv⟩; obtain ⟨HB, HXA, HXB, HV, HRA, HRB, ⟨fa0, fa1, fa2, fa3, fa4, fa5, fa6⟩, fd0, fd1, fd2, fd3, fd4, fd5, fd6⟩ := keep2all hvv HB HXA HXB HV HRA HRB; obtain ⟨⟨vc0, vc1, vc2, vc3, vc4, vc5, vc6⟩, vf0, vf1, vf2, vf3, vf4, vf5, vf6⟩ := HV.out; clear hvv)
    | fail)
  obtain ⟨z7, zb⟩ := fin7b HV HB (.int .i64 0) (.bool false) (.bool false) (.slice none 0 0) (.int .u64 0) (.string ⟨#[]⟩) (.slice none 0 0)
  unfold put7 at z7 zb
  exact bodyPost_ret (v := .tuple #[.agg #[.int .i64 0, .bool false, .bool false, .slice none 0 0, .int .u64 0, .string ⟨#[]⟩, .slice none 0 0], .int .i64 9]) (by simp [results, Tryz.results5, go_sem, z7.c0, z7.c1, z7.c2, z7.c3, z7.c4, z7.c5, z7.c6]) rfl (valt_none zb)
set_option maxRecDepth 100000 in
set_option maxHeartbeats 8000000 in
theorem bin_typ4 (yA nA : Bool) (uA : Value) (sA : List Int) (bA : Nat) (xA : ByteArray) (pAi : Option Addr) (mA cAi : Nat) (kB : Int) (yB nB : Bool) (uB : Value) (sB : List Int) (bB : Nat) (xB : ByteArray) (pBi : Option Addr) (mB cBi : Nat) (w : World) (hrA : Rd w uA sA) (hfA : Fit sA) (hbA : bA < 18446744073709551616) (hmA : (mA : Int) ≤ 9223372036854775807) (hxA : (xA.size : Int) ≤ 9223372036854775807) (hrB : Rd w uB sB) (hfB : Fit sB) (hbB : bB < 18446744073709551616) (hmB : (mB : Int) ≤ 9223372036854775807) (hxB : (xB.size : Int) ≤ 9223372036854775807) (hgA : goodP 4 yA nA sA bA xA mA = true) (hgB : goodP kB yB nB sB bB xB mB = true) (h4 : kB ≠ 4) :
    Calls Tryz.prog 5 #[.int .i64 1, .agg #[.int .i64 4, .bool yA, .bool nA, uA, .int .u64 (bA : Int), .string xA, .slice pAi mA cAi], .agg #[.int .i64 kB, .bool yB, .bool nB, uB, .int .u64 (bB : Int), .string xB, .slice pBi mB cBi]] w (ValT 0 0 0 ⟨#[]⟩ 9 w) := by
  obtain ⟨pA, cA, rfl, hcA, hvA, hpA⟩ := rd_form hrA
  obtain ⟨pB, cB, rfl, hcB, hvB, hpB⟩ := rd_form hrB
  obtain ⟨W1, hW1, HB, HXA, HXB, HV, HLT⟩ := pre2 w (.int .i64 4) (.bool yA) (.bool nA) (.slice pA sA.length cA) (.int .u64 (bA : Int)) (.string xA) (.slice pAi mA cAi) (.int .i64 kB) (.bool yB) (.bool nB) (.slice pB sB.length cB) (.int .u64 (bB : Int)) (.string xB) (.slice pBi mB cBi)
  have HRA := Lib.hid (hrA.keep HB.out)
  have HRB := Lib.hid (hrB.keep HB.out)
  have HGA := Lib.hid (fun (W : World) (hx : Rd W (.slice pA sA.length cA) sA) => good15_any 4 yA nA _ sA bA xA pAi mA cAi W hbA hx hfA hmA hxA)
  rw [hgA] at HGA
  have HGB := Lib.hid (fun (W : World) (hx : Rd W (.slice pB sB.length cB) sB) => good15_any kB yB nB _ sB bB xB pBi mB cBi W hbB hx hfB hmB hxB)
  rw [hgB] at HGB
  have HWA := Lib.hid (fun (W : World) => isWhole_any 4 yA nA (.slice pA sA.length cA) bA xA (.slice pAi mA cAi) W)
  rw [show wholeP 4 = false from (by decide)] at HWA
  have HNA := Lib.hid (fun (W : World) => isNumber_any 4 yA nA (.slice pA sA.length cA) bA xA (.slice pAi mA cAi) W)
  rw [show numP 4 = false from (by decide)] at HNA
  have q4 : (kB == 4) = false := by simpa using h4
  clear hrA hrB hfA hfB hpA hpB hbA hbB hmA hmB hxA hxB hgA hgB h4
  obtain ⟨fa0, fa1, fa2, fa3, fa4, fa5, fa6⟩ := HXA.out
  obtain ⟨fd0, fd1, fd2, fd3, fd4, fd5, fd6⟩ := HXB.out
  go_enter Tryz.func5, Tryz.ntmps5
  go_wp2_with (first
    | (go_at_call 19; (try rw [hW1]); (with_reducible refine (HGA.out _ HRA.out).mono ?_); rintro e vn ⟨rfl, hvv⟩; obtain ⟨HB, HXA, HXB, HV, HRA, HRB, ⟨fa0, fa1, fa2, fa3, fa4, fa5, fa6⟩, fd0, fd1, fd2, fd3, fd4, fd5, fd6⟩ := keep2all hvv HB HXA HXB HV HRA HRB; clear hvv)
    | (go_at_call 19; (try rw [hW1]); (with_reducible refine (HGB.out _ HRB.out).mono ?_); rintro e vn ⟨rfl, hvv⟩; obtain ⟨HB, HXA, HXB, HV, HRA, HRB, ⟨fa0, fa1, fa2, fa3, fa4, fa5, fa6⟩, fd0, fd1, fd2, fd3, fd4, fd5, fd6⟩ := keep2all hvv HB HXA HXB HV HRA HRB; clear hvv)
    | (go_at_call 20; (try rw [hW1]); (with_reducible refine (HWA.out _).mono ?_); rintro e vn ⟨rfl, hvv⟩; obtain ⟨HB, HXA, HXB, HV, HRA, HRB, ⟨fa0, fa1, fa2, fa3, fa4, fa5, fa6⟩, fd0, fd1, fd2, fd3, fd4, fd5, fd6⟩ := keep2all hvv HB HXA HXB HV HRA HRB; clear hvv)
    | (go_at_call 23; (try rw [hW1]); (with_reducible refine (HNA.out _).mono ?_); rintro e vn ⟨rfl, hvv⟩; obtain ⟨HB, HXA, HXB, HV, HRA, HRB, ⟨fa0, fa1, fa2, fa3, fa4, fa5, fa6⟩, fd0, fd1, fd2, fd3, fd4, fd5, fd6⟩ := keep2all hvv HB HXA HXB HV HRA HRB; obtain ⟨⟨vc0, vc1, vc2, vc3, vc4, vc5, vc6⟩, vf0, vf1, vf2, vf3, vf4, vf5, vf6⟩ := HV.out; clear hvv)
    | fail)
  obtain ⟨z7, zb⟩ := fin7b HV HB (.int .i64 0) (.bool false) (.bool false) (.slice none 0 0) (.int .u64 0) (.string ⟨#[]⟩) (.slice none 0 0)
  unfold put7 at z7 zb
  exact bodyPost_ret (v := .tuple #[.agg #[.int .i64 0, .bool false, .bool false, .slice none 0 0, .int .u64 0, .string ⟨#[]⟩, .slice none 0 0], .int .i64 9]) (by simp [results, Tryz.results5, go_sem, z7.c0, z7.c1, z7.c2, z7.c3, z7.c4, z7.c5, z7.c6]) rfl (valt_none zb)
set_option maxRecDepth 100000 in
set_option maxHeartbeats 8000000 in
theorem bin_typ3 (yA nA : Bool) (uA : Value) (sA : List Int) (bA : Nat) (xA : ByteArray) (pAi : Option Addr) (mA cAi : Nat) (kB : Int) (yB nB : Bool) (uB : Value) (sB : List Int) (bB : Nat) (xB : ByteArray) (pBi : Option Addr) (mB cBi : Nat) (w : World) (hrA : Rd w uA sA) (hfA : Fit sA) (hbA : bA < 18446744073709551616) (hmA : (mA : Int) ≤ 9223372036854775807) (hxA : (xA.size : Int) ≤ 9223372036854775807) (hrB : Rd w uB sB) (hfB : Fit sB) (hbB : bB < 18446744073709551616) (hmB : (mB : Int) ≤ 9223372036854775807) (hxB : (xB.size : Int) ≤ 9223372036854775807) (hgA : goodP 3 yA nA sA bA xA mA = true) (hgB : goodP kB yB nB sB bB xB mB = true) (hnB : numP kB = false) :
    Calls Tryz.prog 5 #[.int .i64 1, .agg #[.int .i64 3, .bool yA, .bool nA, uA, .int .u64 (bA : Int), .string xA, .slice pAi mA cAi], .agg #[.int .i64 kB, .bool yB, .bool nB, uB, .int .u64 (bB : Int), .string xB, .slice pBi mB cBi]] w (ValT 0 0 0 ⟨#[]⟩ 9 w) := by
  obtain ⟨pA, cA, rfl, hcA, hvA, hpA⟩ := rd_form hrA
  obtain ⟨pB, cB, rfl, hcB, hvB, hpB⟩ := rd_form hrB
  obtain ⟨W1, hW1, HB, HXA, HXB, HV, HLT⟩ := pre2 w (.int .i64 3) (.bool yA) (.bool nA) (.slice pA sA.length cA) (.int .u64 (bA : Int)) (.string xA) (.slice pAi mA cAi) (.int .i64 kB) (.bool yB) (.bool nB) (.slice pB sB.length cB) (.int .u64 (bB : Int)) (.string xB) (.slice pBi mB cBi)
  have HRA := Lib.hid (hrA.keep HB.out)
  have HRB := Lib.hid (hrB.keep HB.out)
  have HGA := Lib.hid (fun (W : World) (hx : Rd W (.slice pA sA.length cA) sA) => good15_any 3 yA nA _ sA bA xA pAi mA cAi W hbA hx hfA hmA hxA)
  rw [hgA] at HGA
  have HGB := Lib.hid (fun (W : World) (hx : Rd W (.slice pB sB.length cB) sB) => good15_any kB yB nB _ sB bB xB pBi mB cBi W hbB hx hfB hmB hxB)
  rw [hgB] at HGB
  have HWA := Lib.hid (fun (W : World) => isWhole_any 3 yA nA (.slice pA sA.length cA) bA xA (.slice pAi mA cAi) W)
  rw [show wholeP 3 = false from (by decide)] at HWA
  have HNA := Lib.hid (fun (W : World) => isNumber_any 3 yA nA (.slice pA sA.length cA) bA xA (.slice pAi mA cAi) W)
  rw [show numP 3 = true from (by decide)] at HNA
  have HNB := Lib.hid (fun (W : World) => isNumber_any kB yB nB (.slice pB sB.length cB) bB xB (.slice pBi mB cBi) W)
  rw [show numP kB = false from hnB] at HNB
  clear hrA hrB hfA hfB hpA hpB hbA hbB hmA hmB hxA hxB hgA hgB hnB
  obtain ⟨fa0, fa1, fa2, fa3, fa4, fa5, fa6⟩ := HXA.out
  obtain ⟨fd0, fd1, fd2, fd3, fd4, fd5, fd6⟩ := HXB.out
  go_enter Tryz.func5, Tryz.ntmps5
  go_wp2_with (first
    | (go_at_call 19; (try rw [hW1]); (with_reducible refine (HGA.out _ HRA.out).mono ?_); rintro e vn ⟨rfl, hvv⟩; obtain ⟨HB, HXA, HXB, HV, HRA, HRB, ⟨fa0, fa1, fa2, fa3, fa4, fa5, fa6⟩, fd0, fd1, fd2, fd3, fd4, fd5, fd6⟩ := keep2all hvv HB HXA HXB HV HRA HRB; clear hvv)
    | (go_at_call 19; (try rw [hW1]); (with_reducible refine (HGB.out _ HRB.out).mono ?_); rintro e vn ⟨rfl, hvv⟩; obtain ⟨HB, HXA, HXB, HV, HRA, HRB, ⟨fa0, fa1, fa2, fa3, fa4, fa5, fa6⟩, fd0, fd1, fd2, fd3, fd4, fd5, fd6⟩ := keep2all hvv HB HXA HXB HV HRA HRB; clear hvv)
    | (go_at_call 20; (try rw [hW1]); (with_reducible refine (HWA.out _).mono ?_); rintro e vn ⟨rfl, hvv⟩; obtain ⟨HB, HXA, HXB, HV, HRA, HRB, ⟨fa0, fa1, fa2, fa3, fa4, fa5, fa6⟩, fd0, fd1, fd2, fd3, fd4, fd5, fd6⟩ := keep2all hvv HB HXA HXB HV HRA HRB; clear hvv)
    | (go_at_call 23; (try rw [hW1]); (with_reducible refine (HNA.out _).mono ?_); rintro e vn ⟨rfl, hvv⟩; obtain ⟨HB, HXA, HXB, HV, HRA, HRB, ⟨fa0, fa1, fa2, fa3, fa4, fa5, fa6⟩, fd0, fd1, fd2, fd3, fd4, fd5, fd6⟩ := keep2all hvv HB HXA HXB HV HRA HRB; clear hvv)
    | (go_at_call 23; (try rw [hW1]); (with_reducible refine (HNB.out _).mono ?_); rintro e vn ⟨rfl, hvv⟩; obtain ⟨HB, HXA, HXB, HV, HRA, HRB, ⟨fa0, fa1, fa2, fa3, fa4, fa5, fa6⟩, fd0, fd1, fd2, fd3, fd4, fd5, fd6⟩ := keep2all hvv HB HXA HXB HV HRA HRB; obtain ⟨⟨vc0, vc1, vc2, vc3, vc4, vc5, vc6⟩, vf0, vf1, vf2, vf3, vf4, vf5, vf6⟩ := HV.out; clear hvv)
    | fail)
  obtain ⟨z7, zb⟩ := fin7b HV HB (.int .i64 0) (.bool false) (.bool false) (.slice none 0 0) (.int .u64 0) (.string ⟨#[]⟩) (.slice none 0 0)
  unfold put7 at z7 zb
  exact bodyPost_ret (v := .tuple #[.agg #[.int .i64 0, .bool false, .bool false, .slice none 0 0, .int .u64 0, .string ⟨#[]⟩, .slice none 0 0], .int .i64 9]) (by simp [results, Tryz.results5, go_sem, z7.c0, z7.c1, z7.c2, z7.c3, z7.c4, z7.c5, z7.c6]) rfl (valt_none zb)
set_option maxRecDepth 100000 in
set_option maxHeartbeats 8000000 in
theorem bin_typw (kA : Int) (yA nA : Bool) (uA : Value) (sA : List Int) (bA : Nat) (xA : ByteArray) (pAi : Option Addr) (mA cAi : Nat) (kB : Int) (yB nB : Bool) (uB : Value) (sB : List Int) (bB : Nat) (xB : ByteArray) (pBi : Option Addr) (mB cBi : Nat) (w : World) (hrA : Rd w uA sA) (hfA : Fit sA) (hbA : bA < 18446744073709551616) (hmA : (mA : Int) ≤ 9223372036854775807) (hxA : (xA.size : Int) ≤ 9223372036854775807) (hrB : Rd w uB sB) (hfB : Fit sB) (hbB : bB < 18446744073709551616) (hmB : (mB : Int) ≤ 9223372036854775807) (hxB : (xB.size : Int) ≤ 9223372036854775807) (hgA : goodP kA yA nA sA bA xA mA = true) (hgB : goodP kB yB nB sB bB xB mB = true) (hwA : wholeP kA = true) (hnB : numP kB = false) :
    Calls Tryz.prog 5 #[.int .i64 1, .agg #[.int .i64 kA, .bool yA, .bool nA, uA, .int .u64 (bA : Int), .string xA, .slice pAi mA cAi], .agg #[.int .i64 kB, .bool yB, .bool nB, uB, .int .u64 (bB : Int), .string xB, .slice pBi mB cBi]] w (ValT 0 0 0 ⟨#[]⟩ 9 w) := by
  obtain ⟨pA, cA, rfl, hcA, hvA, hpA⟩ := rd_form hrA
  obtain ⟨pB, cB, rfl, hcB, hvB, hpB⟩ := rd_form hrB
  obtain ⟨W1, hW1, HB, HXA, HXB, HV, HLT⟩ := pre2 w (.int .i64 kA) (.bool yA) (.bool nA) (.slice pA sA.length cA) (.int .u64 (bA : Int)) (.string xA) (.slice pAi mA cAi) (.int .i64 kB) (.bool yB) (.bool nB) (.slice pB sB.length cB) (.int .u64 (bB : Int)) (.string xB) (.slice pBi mB cBi)
  have HRA := Lib.hid (hrA.keep HB.out)
  have HRB := Lib.hid (hrB.keep HB.out)
  have HGA := Lib.hid (fun (W : World) (hx : Rd W (.slice pA sA.length cA) sA) => good15_any kA yA nA _ sA bA xA pAi mA cAi W hbA hx hfA hmA hxA)
  rw [hgA] at HGA
  have HGB := Lib.hid (fun (W : World) (hx : Rd W (.slice pB sB.length cB) sB) => good15_any kB yB nB _ sB bB xB pBi mB cBi W hbB hx hfB hmB hxB)
  rw [hgB] at HGB
  have HWA := Lib.hid (fun (W : World) => isWhole_any kA yA nA (.slice pA sA.length cA) bA xA (.slice pAi mA cAi) W)
  rw [show wholeP kA = true from hwA] at HWA
  have HWB := Lib.hid (fun (W : World) => isWhole_any kB yB nB (.slice pB sB.length cB) bB xB (.slice pBi mB cBi) W)
  rw [show wholeP kB = false from (by have h := hnB; unfold numP at h; unfold wholeP; revert h; cases (kB == 3) <;> simp)] at HWB
  have HNA := Lib.hid (fun (W : World) => isNumber_any kA yA nA (.slice pA sA.length cA) bA xA (.slice pAi mA cAi) W)
  rw [show numP kA = true from (by have h := hwA; unfold wholeP at h; unfold numP; rw [h]; simp)] at HNA
  have HNB := Lib.hid (fun (W : World) => isNumber_any kB yB nB (.slice pB sB.length cB) bB xB (.slice pBi mB cBi) W)
  rw [show numP kB = false from hnB] at HNB
  have q4 : (kA == 4) = false := by have h := hwA; unfold wholeP at h; rcases (by simpa using h : kA = 1 ∨ kA = 2) with rfl | rfl <;> rfl
  clear hrA hrB hfA hfB hpA hpB hbA hbB hmA hmB hxA hxB hgA hgB hwA hnB
  obtain ⟨fa0, fa1, fa2, fa3, fa4, fa5, fa6⟩ := HXA.out
  obtain ⟨fd0, fd1, fd2, fd3, fd4, fd5, fd6⟩ := HXB.out
  go_enter Tryz.func5, Tryz.ntmps5
  go_wp2_with (first
    | (go_at_call 19; (try rw [hW1]); (with_reducible refine (HGA.out _ HRA.out).mono ?_); rintro e vn ⟨rfl, hvv⟩; obtain ⟨HB, HXA, HXB, HV, HRA, HRB, ⟨fa0, fa1, fa2, fa3, fa4, fa5, fa6⟩, fd0, fd1, fd2, fd3, fd4, fd5, fd6⟩ := keep2all hvv HB HXA HXB HV HRA HRB; clear hvv)
    | (go_at_call 19; (try rw [hW1]); (with_reducible refine (HGB.out _ HRB.out).mono ?_); rintro e vn ⟨rfl, hvv⟩; obtain ⟨HB, HXA, HXB, HV, HRA, HRB, ⟨fa0, fa1, fa2, fa3, fa4, fa5, fa6⟩, fd0, fd1, fd2, fd3, fd4, fd5, fd6⟩ := keep2all hvv HB HXA HXB HV HRA HRB; clear hvv)
    | (go_at_call 20; (try rw [hW1]); (with_reducible refine (HWA.out _).mono ?_); rintro e vn ⟨rfl, hvv⟩; obtain ⟨HB, HXA, HXB, HV, HRA, HRB, ⟨fa0, fa1, fa2, fa3, fa4, fa5, fa6⟩, fd0, fd1, fd2, fd3, fd4, fd5, fd6⟩ := keep2all hvv HB HXA HXB HV HRA HRB; clear hvv)
    | (go_at_call 20; (try rw [hW1]); (with_reducible refine (HWB.out _).mono ?_); rintro e vn ⟨rfl, hvv⟩; obtain ⟨HB, HXA, HXB, HV, HRA, HRB, ⟨fa0, fa1, fa2, fa3, fa4, fa5, fa6⟩, fd0, fd1, fd2, fd3, fd4, fd5, fd6⟩ := keep2all hvv HB HXA HXB HV HRA HRB; clear hvv)
    | (go_at_call 23; (try rw [hW1]); (with_reducible refine (HNA.out _).mono ?_); rintro e vn ⟨rfl, hvv⟩; obtain ⟨HB, HXA, HXB, HV, HRA, HRB, ⟨fa0, fa1, fa2, fa3, fa4, fa5, fa6⟩, fd0, fd1, fd2, fd3, fd4, fd5, fd6⟩ := keep2all hvv HB HXA HXB HV HRA HRB; clear hvv)
    | (go_at_call 23; (try rw [hW1]); (with_reducible refine (HNB.out _).mono ?_); rintro e vn ⟨rfl, hvv⟩; obtain ⟨HB, HXA, HXB, HV, HRA, HRB, ⟨fa0, fa1, fa2, fa3, fa4, fa5, fa6⟩, fd0, fd1, fd2, fd3, fd4, fd5, fd6⟩ := keep2all hvv HB HXA HXB HV HRA HRB; obtain ⟨⟨vc0, vc1, vc2, vc3, vc4, vc5, vc6⟩, vf0, vf1, vf2, vf3, vf4, vf5, vf6⟩ := HV.out; clear hvv)
    | fail)
  obtain ⟨z7, zb⟩ := fin7b HV HB (.int .i64 0) (.bool false) (.bool false) (.slice none 0 0) (.int .u64 0) (.string ⟨#[]⟩) (.slice none 0 0)
  unfold put7 at z7 zb
  exact bodyPost_ret (v := .tuple #[.agg #[.int .i64 0, .bool false, .bool false, .slice none 0 0, .int .u64 0, .string ⟨#[]⟩, .slice none 0 0], .int .i64 9]) (by simp [results, Tryz.results5, go_sem, z7.c0, z7.c1, z7.c2, z7.c3, z7.c4, z7.c5, z7.c6]) rfl (valt_none zb)
set_option maxRecDepth 100000 in
set_option maxHeartbeats 8000000 in
theorem bin_ss (yA nA : Bool) (uA : Value) (sA : List Int) (bA : Nat) (xA : ByteArray) (pAi : Option Addr) (mA cAi : Nat) (yB nB : Bool) (uB : Value) (sB : List Int) (bB : Nat) (xB : ByteArray) (pBi : Option Addr) (mB cBi : Nat) (w : World) (hrA : Rd w uA sA) (hfA : Fit sA) (hbA : bA < 18446744073709551616) (hmA : (mA : Int) ≤ 9223372036854775807) (hxA : (xA.size : Int) ≤ 9223372036854775807) (hrB : Rd w uB sB) (hfB : Fit sB) (hbB : bB < 18446744073709551616) (hmB : (mB : Int) ≤ 9223372036854775807) (hxB : (xB.size : Int) ≤ 9223372036854775807) (hgA : goodP 4 yA nA sA bA xA mA = true) (hgB : goodP 4 yB nB sB bB xB mB = true) (hl : xA.size + xB.size ≤ 20000) :
    Calls Tryz.prog 5 #[.int .i64 1, .agg #[.int .i64 4, .bool yA, .bool nA, uA, .int .u64 (bA : Int), .string xA, .slice pAi mA cAi], .agg #[.int .i64 4, .bool yB, .bool nB, uB, .int .u64 (bB : Int), .string xB, .slice pBi mB cBi]] w (ValT 4 0 0 (xA ++ xB) 0 w) := by
  obtain ⟨pA, cA, rfl, hcA, hvA, hpA⟩ := rd_form hrA
  obtain ⟨pB, cB, rfl, hcB, hvB, hpB⟩ := rd_form hrB
  obtain ⟨W1, hW1, HB, HXA, HXB, HV, HLT⟩ := pre2 w (.int .i64 4) (.bool yA) (.bool nA) (.slice pA sA.length cA) (.int .u64 (bA : Int)) (.string xA) (.slice pAi mA cAi) (.int .i64 4) (.bool yB) (.bool nB) (.slice pB sB.length cB) (.int .u64 (bB : Int)) (.string xB) (.slice pBi mB cBi)
  have HRA := Lib.hid (hrA.keep HB.out)
  have HRB := Lib.hid (hrB.keep HB.out)
  have HGA := Lib.hid (fun (W : World) (hx : Rd W (.slice pA sA.length cA) sA) => good15_any 4 yA nA _ sA bA xA pAi mA cAi W hbA hx hfA hmA hxA)
  rw [hgA] at HGA
  have HGB := Lib.hid (fun (W : World) (hx : Rd W (.slice pB sB.length cB) sB) => good15_any 4 yB nB _ sB bB xB pBi mB cBi W hbB hx hfB hmB hxB)
  rw [hgB] at HGB
  have HWA := Lib.hid (fun (W : World) => isWhole_any 4 yA nA (.slice pA sA.length cA) bA xA (.slice pAi mA cAi) W)
  rw [show wholeP 4 = false from (by decide)] at HWA
  have HNA := Lib.hid (fun (W : World) => isNumber_any 4 yA nA (.slice pA sA.length cA) bA xA (.slice pAi mA cAi) W)
  rw [show numP 4 = false from (by decide)] at HNA
  have hlA := good_len hgA rfl
  have hlB := good_len hgB rfl
  have qz : IntKind.i64.wrap ((xA.size : Int) + (xB.size : Int)) = (xA.size : Int) + (xB.size : Int) := IntWalk.i64_in _ (by omega)
  have ql : decide (20000 < (xA.size : Int) + (xB.size : Int)) = false := by simp; omega
  have HSZ := Lib.hid (show xA.size + xB.size ≤ 40000 by omega)
  clear hrA hrB hfA hfB hpA hpB hbA hbB hmA hmB hgA hgB
  obtain ⟨fa0, fa1, fa2, fa3, fa4, fa5, fa6⟩ := HXA.out
  obtain ⟨fd0, fd1, fd2, fd3, fd4, fd5, fd6⟩ := HXB.out
  go_enter Tryz.func5, Tryz.ntmps5
  go_wp2_with (first
    | (go_at_call 19; (try rw [hW1]); (with_reducible refine (HGA.out _ HRA.out).mono ?_); rintro e vn ⟨rfl, hvv⟩; obtain ⟨HB, HXA, HXB, HV, HRA, HRB, ⟨fa0, fa1, fa2, fa3, fa4, fa5, fa6⟩, fd0, fd1, fd2, fd3, fd4, fd5, fd6⟩ := keep2all hvv HB HXA HXB HV HRA HRB; clear hvv)
    | (go_at_call 19; (try rw [hW1]); (with_reducible refine (HGB.out _ HRB.out).mono ?_); rintro e vn ⟨rfl, hvv⟩; obtain ⟨HB, HXA, HXB, HV, HRA, HRB, ⟨fa0, fa1, fa2, fa3, fa4, fa5, fa6⟩, fd0, fd1, fd2, fd3, fd4, fd5, fd6⟩ := keep2all hvv HB HXA HXB HV HRA HRB; clear hvv)
    | (go_at_call 20; (try rw [hW1]); (with_reducible refine (HWA.out _).mono ?_); rintro e vn ⟨rfl, hvv⟩; obtain ⟨HB, HXA, HXB, HV, HRA, HRB, ⟨fa0, fa1, fa2, fa3, fa4, fa5, fa6⟩, fd0, fd1, fd2, fd3, fd4, fd5, fd6⟩ := keep2all hvv HB HXA HXB HV HRA HRB; clear hvv)
    | (go_at_call 23; (try rw [hW1]); (with_reducible refine (HNA.out _).mono ?_); rintro e vn ⟨rfl, hvv⟩; obtain ⟨HB, HXA, HXB, HV, HRA, HRB, ⟨fa0, fa1, fa2, fa3, fa4, fa5, fa6⟩, fd0, fd1, fd2, fd3, fd4, fd5, fd6⟩ := keep2all hvv HB HXA HXB HV HRA HRB; obtain ⟨⟨vc0, vc1, vc2, vc3, vc4, vc5, vc6⟩, vf0, vf1, vf2, vf3, vf4, vf5, vf6⟩ := HV.out; clear hvv)
    | fail)
  obtain ⟨z7, zb⟩ := fin7b HV HB (.int .i64 4) (.bool false) (.bool false) (.slice none 0 0) (.int .u64 0) (.string (xA ++ xB)) (.slice none 0 0)
  unfold put7 at z7 zb
  exact bodyPost_ret (v := .tuple #[.agg #[.int .i64 4, .bool false, .bool false, .slice none 0 0, .int .u64 0, .string (xA ++ xB), .slice none 0 0], .int .i64 0]) (by simp [results, Tryz.results5, go_sem, z7.c0, z7.c1, z7.c2, z7.c3, z7.c4, z7.c5, z7.c6]) rfl (valt_none zb)
set_option maxRecDepth 100000 in
set_option maxHeartbeats 8000000 in
theorem bin_sslong (yA nA : Bool) (uA : Value) (sA : List Int) (bA : Nat) (xA : ByteArray) (pAi : Option Addr) (mA cAi : Nat) (yB nB : Bool) (uB : Value) (sB : List Int) (bB : Nat) (xB : ByteArray) (pBi : Option Addr) (mB cBi : Nat) (w : World) (hrA : Rd w uA sA) (hfA : Fit sA) (hbA : bA < 18446744073709551616) (hmA : (mA : Int) ≤ 9223372036854775807) (hxA : (xA.size : Int) ≤ 9223372036854775807) (hrB : Rd w uB sB) (hfB : Fit sB) (hbB : bB < 18446744073709551616) (hmB : (mB : Int) ≤ 9223372036854775807) (hxB : (xB.size : Int) ≤ 9223372036854775807) (hgA : goodP 4 yA nA sA bA xA mA = true) (hgB : goodP 4 yB nB sB bB xB mB = true) (hl : xA.size + xB.size > 20000) :
    Calls Tryz.prog 5 #[.int .i64 1, .agg #[.int .i64 4, .bool yA, .bool nA, uA, .int .u64 (bA : Int), .string xA, .slice pAi mA cAi], .agg #[.int .i64 4, .bool yB, .bool nB, uB, .int .u64 (bB : Int), .string xB, .slice pBi mB cBi]] w (ValT 0 0 0 ⟨#[]⟩ 2 w) := by
  obtain ⟨pA, cA, rfl, hcA, hvA, hpA⟩ := rd_form hrA
  obtain ⟨pB, cB, rfl, hcB, hvB, hpB⟩ := rd_form hrB
  obtain ⟨W1, hW1, HB, HXA, HXB, HV, HLT⟩ := pre2 w (.int .i64 4) (.bool yA) (.bool nA) (.slice pA sA.length cA) (.int .u64 (bA : Int)) (.string xA) (.slice pAi mA cAi) (.int .i64 4) (.bool yB) (.bool nB) (.slice pB sB.length cB) (.int .u64 (bB : Int)) (.string xB) (.slice pBi mB cBi)
  have HRA := Lib.hid (hrA.keep HB.out)
  have HRB := Lib.hid (hrB.keep HB.out)
  have HGA := Lib.hid (fun (W : World) (hx : Rd W (.slice pA sA.length cA) sA) => good15_any 4 yA nA _ sA bA xA pAi mA cAi W hbA hx hfA hmA hxA)
  rw [hgA] at HGA
  have HGB := Lib.hid (fun (W : World) (hx : Rd W (.slice pB sB.length cB) sB) => good15_any 4 yB nB _ sB bB xB pBi mB cBi W hbB hx hfB hmB hxB)
  rw [hgB] at HGB
  have HWA := Lib.hid (fun (W : World) => isWhole_any 4 yA nA (.slice pA sA.length cA) bA xA (.slice pAi mA cAi) W)
  rw [show wholeP 4 = false from (by decide)] at HWA
  have HNA := Lib.hid (fun (W : World) => isNumber_any 4 yA nA (.slice pA sA.length cA) bA xA (.slice pAi mA cAi) W)
  rw [show numP 4 = false from (by decide)] at HNA
  have hlA := good_len hgA rfl
  have hlB := good_len hgB rfl
  have qz : IntKind.i64.wrap ((xA.size : Int) + (xB.size : Int)) = (xA.size : Int) + (xB.size : Int) := IntWalk.i64_in _ (by omega)
  have ql : decide (20000 < (xA.size : Int) + (xB.size : Int)) = true := by simp; omega
  have HSZ := Lib.hid (show xA.size + xB.size ≤ 40000 by omega)
  clear hrA hrB hfA hfB hpA hpB hbA hbB hmA hmB hgA hgB
  obtain ⟨fa0, fa1, fa2, fa3, fa4, fa5, fa6⟩ := HXA.out
  obtain ⟨fd0, fd1, fd2, fd3, fd4, fd5, fd6⟩ := HXB.out
  go_enter Tryz.func5, Tryz.ntmps5
  go_wp2_with (first
    | (go_at_call 19; (try rw [hW1]); (with_reducible refine (HGA.out _ HRA.out).mono ?_); rintro e vn ⟨rfl, hvv⟩; obtain ⟨HB, HXA, HXB, HV, HRA, HRB, ⟨fa0, fa1, fa2, fa3, fa4, fa5, fa6⟩, fd0, fd1, fd2, fd3, fd4, fd5, fd6⟩ := keep2all hvv HB HXA HXB HV HRA HRB; clear hvv)
    | (go_at_call 19; (try rw [hW1]); (with_reducible refine (HGB.out _ HRB.out).mono ?_); rintro e vn ⟨rfl, hvv⟩; obtain ⟨HB, HXA, HXB, HV, HRA, HRB, ⟨fa0, fa1, fa2, fa3, fa4, fa5, fa6⟩, fd0, fd1, fd2, fd3, fd4, fd5, fd6⟩ := keep2all hvv HB HXA HXB HV HRA HRB; clear hvv)
    | (go_at_call 20; (try rw [hW1]); (with_reducible refine (HWA.out _).mono ?_); rintro e vn ⟨rfl, hvv⟩; obtain ⟨HB, HXA, HXB, HV, HRA, HRB, ⟨fa0, fa1, fa2, fa3, fa4, fa5, fa6⟩, fd0, fd1, fd2, fd3, fd4, fd5, fd6⟩ := keep2all hvv HB HXA HXB HV HRA HRB; clear hvv)
    | (go_at_call 23; (try rw [hW1]); (with_reducible refine (HNA.out _).mono ?_); rintro e vn ⟨rfl, hvv⟩; obtain ⟨HB, HXA, HXB, HV, HRA, HRB, ⟨fa0, fa1, fa2, fa3, fa4, fa5, fa6⟩, fd0, fd1, fd2, fd3, fd4, fd5, fd6⟩ := keep2all hvv HB HXA HXB HV HRA HRB; obtain ⟨⟨vc0, vc1, vc2, vc3, vc4, vc5, vc6⟩, vf0, vf1, vf2, vf3, vf4, vf5, vf6⟩ := HV.out; clear hvv)
    | fail)
  obtain ⟨z7, zb⟩ := fin7b HV HB (.int .i64 0) (.bool false) (.bool false) (.slice none 0 0) (.int .u64 0) (.string ⟨#[]⟩) (.slice none 0 0)
  unfold put7 at z7 zb
  exact bodyPost_ret (v := .tuple #[.agg #[.int .i64 0, .bool false, .bool false, .slice none 0 0, .int .u64 0, .string ⟨#[]⟩, .slice none 0 0], .int .i64 2]) (by simp [results, Tryz.results5, go_sem, z7.c0, z7.c1, z7.c2, z7.c3, z7.c4, z7.c5, z7.c6]) rfl (valt_none zb)
set_option maxRecDepth 100000 in
set_option maxHeartbeats 8000000 in
theorem bin_w (op : Int) (kA : Int) (yA nA : Bool) (uA : Value) (sA : List Int) (bA : Nat) (xA : ByteArray) (pAi : Option Addr) (mA cAi : Nat) (kB : Int) (yB nB : Bool) (uB : Value) (sB : List Int) (bB : Nat) (xB : ByteArray) (pBi : Option Addr) (mB cBi : Nat) (w : World) (hrA : Rd w uA sA) (hfA : Fit sA) (hbA : bA < 18446744073709551616) (hmA : (mA : Int) ≤ 9223372036854775807) (hxA : (xA.size : Int) ≤ 9223372036854775807) (hrB : Rd w uB sB) (hfB : Fit sB) (hbB : bB < 18446744073709551616) (hmB : (mB : Int) ≤ 9223372036854775807) (hxB : (xB.size : Int) ≤ 9223372036854775807) (hgA : goodP kA yA nA sA bA xA mA = true) (hgB : goodP kB yB nB sB bB xB mB = true) (hwA : wholeP kA = true) (hwB : wholeP kB = true) (o1 : 1 ≤ op) (o2 : op ≤ 7) (K Z : Int) (BB : Nat) (X : Int) (hbw : ∀ (n1 : Bool) (u1 : Value) (xs : List Int) (n2 : Bool) (u2 : Value) (ys : List Int) (W : World), Rd W u1 xs → Rd W u2 ys → Sgn B18 n1 xs (zP kA yA nA sA) → Sgn B18 n2 ys (zP kB yB nB sB) → xs.length ≤ 30 → ys.length ≤ 30 → Calls Tryz.prog 21 #[.int .i64 op, .agg #[.bool n1, u1], .agg #[.bool n2, u2]] W (ValT K Z BB ⟨#[]⟩ X W)) :
    Calls Tryz.prog 5 #[.int .i64 op, .agg #[.int .i64 kA, .bool yA, .bool nA, uA, .int .u64 (bA : Int), .string xA, .slice pAi mA cAi], .agg #[.int .i64 kB, .bool yB, .bool nB, uB, .int .u64 (bB : Int), .string xB, .slice pBi mB cBi]] w (ValT K Z BB ⟨#[]⟩ X w) := by
  obtain ⟨pA, cA, rfl, hcA, hvA, hpA⟩ := rd_form hrA
  obtain ⟨pB, cB, rfl, hcB, hvB, hpB⟩ := rd_form hrB
  obtain ⟨W1, hW1, HB, HXA, HXB, HV, HLT⟩ := pre2 w (.int .i64 kA) (.bool yA) (.bool nA) (.slice pA sA.length cA) (.int .u64 (bA : Int)) (.string xA) (.slice pAi mA cAi) (.int .i64 kB) (.bool yB) (.bool nB) (.slice pB sB.length cB) (.int .u64 (bB : Int)) (.string xB) (.slice pBi mB cBi)
  have HRA := Lib.hid (hrA.keep HB.out)
  have HRB := Lib.hid (hrB.keep HB.out)
  have HGA := Lib.hid (fun (W : World) (hx : Rd W (.slice pA sA.length cA) sA) => good15_any kA yA nA _ sA bA xA pAi mA cAi W hbA hx hfA hmA hxA)
  rw [hgA] at HGA
  have HGB := Lib.hid (fun (W : World) (hx : Rd W (.slice pB sB.length cB) sB) => good15_any kB yB nB _ sB bB xB pBi mB cBi W hbB hx hfB hmB hxB)
  rw [hgB] at HGB
  have HWA := Lib.hid (fun (W : World) => isWhole_any kA yA nA (.slice pA sA.length cA) bA xA (.slice pAi mA cAi) W)
  rw [show wholeP kA = true from hwA] at HWA
  have HWB := Lib.hid (fun (W : World) => isWhole_any kB yB nB (.slice pB sB.length cB) bB xB (.slice pBi mB cBi) W)
  rw [show wholeP kB = true from hwB] at HWB
  have CA := Lib.hid (fun (W : World) (hx : Rd W (.slice pA sA.length cA) sA) => toBig_any kA yA nA _ sA bA xA (.slice pAi mA cAi) W hx hfA (good_k2 hgA))
  have CB := Lib.hid (fun (W : World) (hx : Rd W (.slice pB sB.length cB) sB) => toBig_any kB yB nB _ sB bB xB (.slice pBi mB cBi) W hx hfB (good_k2 hgB))
  have HBW := Lib.hid hbw
  have q1 : decide (op < 1) = false := by simp; omega
  have q2 : decide (7 < op) = false := by simp; omega
  clear hrA hrB hfA hfB hpA hpB hbA hbB hmA hmB hxA hxB hgA hgB hwA hwB o1 o2 hbw
  obtain ⟨fa0, fa1, fa2, fa3, fa4, fa5, fa6⟩ := HXA.out
  obtain ⟨fd0, fd1, fd2, fd3, fd4, fd5, fd6⟩ := HXB.out
  go_enter Tryz.func5, Tryz.ntmps5
  go_upto_region 6 with (first
    | (go_at_call 19; (try rw [hW1]); (with_reducible refine (HGA.out _ HRA.out).mono ?_); rintro e vn ⟨rfl, hvv⟩; obtain ⟨HB, HXA, HXB, HV, HRA, HRB, ⟨fa0, fa1, fa2, fa3, fa4, fa5, fa6⟩, fd0, fd1, fd2, fd3, fd4, fd5, fd6⟩ := keep2all hvv HB HXA HXB HV HRA HRB; clear hvv)
    | (go_at_call 19; (try rw [hW1]); (with_reducible refine (HGB.out _ HRB.out).mono ?_); rintro e vn ⟨rfl, hvv⟩; obtain ⟨HB, HXA, HXB, HV, HRA, HRB, ⟨fa0, fa1, fa2, fa3, fa4, fa5, fa6⟩, fd0, fd1, fd2, fd3, fd4, fd5, fd6⟩ := keep2all hvv HB HXA HXB HV HRA HRB; clear hvv)
    | (go_at_call 20; (try rw [hW1]); (with_reducible refine (HWA.out _).mono ?_); rintro e vn ⟨rfl, hvv⟩; obtain ⟨HB, HXA, HXB, HV, HRA, HRB, ⟨fa0, fa1, fa2, fa3, fa4, fa5, fa6⟩, fd0, fd1, fd2, fd3, fd4, fd5, fd6⟩ := keep2all hvv HB HXA HXB HV HRA HRB; clear hvv)
    | (go_at_call 20; (try rw [hW1]); (with_reducible refine (HWB.out _).mono ?_); rintro e vn ⟨rfl, hvv⟩; obtain ⟨HB, HXA, HXB, HV, HRA, HRB, ⟨fa0, fa1, fa2, fa3, fa4, fa5, fa6⟩, fd0, fd1, fd2, fd3, fd4, fd5, fd6⟩ := keep2all hvv HB HXA HXB HV HRA HRB; clear hvv)
    | fail)
  obtain ⟨⟨vc0, vc1, vc2, vc3, vc4, vc5, vc6⟩, vf0, vf1, vf2, vf3, vf4, vf5, vf6⟩ := HV.out
  have HRAd := Lib.hid (show Rd vn.drew (.slice pA sA.length cA) sA from HRA.out)
  go_region_held3 (fun w' => w'.cell? ⟨w.heap.size, 0, none⟩ = some (.int .i64 kA) ∧ w'.cell? ⟨w.heap.size, 1, none⟩ = some (.bool yA) ∧ w'.cell? ⟨w.heap.size, 2, none⟩ = some (.bool nA) ∧ w'.cell? ⟨w.heap.size, 3, none⟩ = some (.slice pA sA.length cA) ∧ w'.cell? ⟨w.heap.size, 4, none⟩ = some (.int .u64 (bA : Int)) ∧ w'.cell? ⟨w.heap.size, 5, none⟩ = some (.string xA) ∧ w'.cell? ⟨w.heap.size, 6, none⟩ = some (.slice pAi mA cAi) ∧ w'.cell? ⟨w.heap.size + 1, 0, none⟩ = some (.int .i64 kB) ∧ w'.cell? ⟨w.heap.size + 1, 1, none⟩ = some (.bool yB) ∧ w'.cell? ⟨w.heap.size + 1, 2, none⟩ = some (.bool nB) ∧ w'.cell? ⟨w.heap.size + 1, 3, none⟩ = some (.slice pB sB.length cB) ∧ w'.cell? ⟨w.heap.size + 1, 4, none⟩ = some (.int .u64 (bB : Int)) ∧ w'.cell? ⟨w.heap.size + 1, 5, none⟩ = some (.string xB) ∧ w'.cell? ⟨w.heap.size + 1, 6, none⟩ = some (.slice pBi mB cBi))
    (first | ((repeat' (first | with_reducible assumption | apply And.intro | with_reducible refine drew_cell ?_)); done) | ((with_reducible refine put7_two (B := w.heap.size + 2) (A := w.heap.size) (D := w.heap.size + 1) ?_ (by omega) (by omega) _ _ _ _ _ _ _); ((repeat' (first | with_reducible assumption | apply And.intro)); done)) | fail)
    (first
     | (go_at_call 22; (with_reducible refine (CA.out _ HRAd.out).mono ?_); rintro e v5 ⟨nA1, pA1, cA1, wA1, rfl, hRn, hSn, hLn, hvv⟩; have hvw := Below.trans (drewM (Below.refl vn.heap.size vn)) hvv; obtain ⟨HB, HXA, HXB, HV, HRA, HRB, ⟨fa0, fa1, fa2, fa3, fa4, fa5, fa6⟩, fd0, fd1, fd2, fd3, fd4, fd5, fd6⟩ := keep2all hvw HB HXA HXB HV HRA HRB; have RA := Lib.hid hRn; have SA := Lib.hid hSn; have LA := Lib.hid hLn; clear hvv hvw hRn hSn hLn)
     | (go_at_call 22; (with_reducible refine (CB.out _ HRB.out).mono ?_); rintro e v6 ⟨nB1, pB1, cB1, wB1, rfl, hRn, hSn, hLn, hvv⟩; obtain ⟨HB, HXA, HXB, HV, HRA, HRB, ⟨fa0, fa1, fa2, fa3, fa4, fa5, fa6⟩, fd0, fd1, fd2, fd3, fd4, fd5, fd6⟩ := keep2all hvv HB HXA HXB HV HRA HRB; replace RA := Lib.hid (RA.out.keep hvv); have RB := Lib.hid hRn; have SB := Lib.hid hSn; have LB := Lib.hid hLn; clear hvv hRn hSn hLn)
     | (go_at_call 21; have hcon := HBW.out _ _ _ _ _ _ v6 RA.out RB.out SA.out SB.out LA.out LB.out; (with_reducible refine hcon.mono ?_); rintro e v7 ⟨n2r, p2, k2, ws, rfl, hM2, hL2, hS2, hvv⟩; have HLE := Lib.hid (show w.heap.size + 2 < v6.heap.size from World.block_lt_of_cell? _ _ HV.out.b.c0); obtain ⟨HB, HXA, HXB, HV, HRA, HRB, ⟨fa0, fa1, fa2, fa3, fa4, fa5, fa6⟩, fd0, fd1, fd2, fd3, fd4, fd5, fd6⟩ := keep2all hvv HB HXA HXB HV HRA HRB; obtain ⟨⟨vc0, vc1, vc2, vc3, vc4, vc5, vc6⟩, vf0, vf1, vf2, vf3, vf4, vf5, vf6⟩ := HV.out; have HM2 := Lib.hid hM2; have HL2 := Lib.hid hL2; have HS2 := Lib.hid hS2; clear hvv hM2 hL2 hS2 hcon)
     | fail)
  go_wp2_with fail
  obtain ⟨z7, zb⟩ := fin7b HV HB (.int .i64 K) (.bool false) (.bool n2r) (.slice p2 ws.length k2) (.int .u64 (BB : Int)) (.string ⟨#[]⟩) (.slice none 0 0)
  have zm := put7_mu HM2.out HLE.out (.int .i64 K) (.bool false) (.bool n2r) (.slice p2 ws.length k2) (.int .u64 (BB : Int)) (.string ⟨#[]⟩) (.slice none 0 0)
  unfold put7 at z7 zm zb
  exact bodyPost_ret (v := .tuple #[.agg #[.int .i64 K, .bool false, .bool n2r, .slice p2 ws.length k2, .int .u64 (BB : Int), .string ⟨#[]⟩, .slice none 0 0], .int .i64 X]) (by simp [results, Tryz.results5, go_sem, z7.c0, z7.c1, z7.c2, z7.c3, z7.c4, z7.c5, z7.c6]) rfl ⟨n2r, p2, k2, ws, rfl, zm.low (by have := HLE.out; omega), HL2.out, HS2.out, zb⟩
set_option maxRecDepth 100000 in
set_option maxHeartbeats 8000000 in
theorem bin_f (kA : Int) (yA nA : Bool) (uA : Value) (sA : List Int) (bA : Nat) (xA : ByteArray) (pAi : Option Addr) (mA cAi : Nat) (kB : Int) (yB nB : Bool) (uB : Value) (sB : List Int) (bB : Nat) (xB : ByteArray) (pBi : Option Addr) (mB cBi : Nat) (w : World) (hrA : Rd w uA sA) (hfA : Fit sA) (hbA : bA < 18446744073709551616) (hmA : (mA : Int) ≤ 9223372036854775807) (hxA : (xA.size : Int) ≤ 9223372036854775807) (hrB : Rd w uB sB) (hfB : Fit sB) (hbB : bB < 18446744073709551616) (hmB : (mB : Int) ≤ 9223372036854775807) (hxB : (xB.size : Int) ≤ 9223372036854775807) (hgA : goodP kA yA nA sA bA xA mA = true) (hgB : goodP kB yB nB sB bB xB mB = true) (hnA : numP kA = true) (hnB : numP kB = true) (hww : (wholeP kA && wholeP kB) = false) (K Z : Int) (BB : Nat) (X : Int) (hbf : ∀ (W : World), Below w.heap.size w W → Calls Tryz.prog 24 #[.int .i64 1, .agg #[.int .i64 kA, .bool yA, .bool nA, uA, .int .u64 (bA : Int), .string xA, .slice pAi mA cAi], .agg #[.int .i64 kB, .bool yB, .bool nB, uB, .int .u64 (bB : Int), .string xB, .slice pBi mB cBi]] W (ValT K Z BB ⟨#[]⟩ X W)) :
    Calls Tryz.prog 5 #[.int .i64 1, .agg #[.int .i64 kA, .bool yA, .bool nA, uA, .int .u64 (bA : Int), .string xA, .slice pAi mA cAi], .agg #[.int .i64 kB, .bool yB, .bool nB, uB, .int .u64 (bB : Int), .string xB, .slice pBi mB cBi]] w (ValT K Z BB ⟨#[]⟩ X w) := by
  obtain ⟨pA, cA, rfl, hcA, hvA, hpA⟩ := rd_form hrA
  obtain ⟨pB, cB, rfl, hcB, hvB, hpB⟩ := rd_form hrB
  obtain ⟨W1, hW1, HB, HXA, HXB, HV, HLT⟩ := pre2 w (.int .i64 kA) (.bool yA) (.bool nA) (.slice pA sA.length cA) (.int .u64 (bA : Int)) (.string xA) (.slice pAi mA cAi) (.int .i64 kB) (.bool yB) (.bool nB) (.slice pB sB.length cB) (.int .u64 (bB : Int)) (.string xB) (.slice pBi mB cBi)
  have HRA := Lib.hid (hrA.keep HB.out)
  have HRB := Lib.hid (hrB.keep HB.out)
  have HGA := Lib.hid (fun (W : World) (hx : Rd W (.slice pA sA.length cA) sA) => good15_any kA yA nA _ sA bA xA pAi mA cAi W hbA hx hfA hmA hxA)
  rw [hgA] at HGA
  have HGB := Lib.hid (fun (W : World) (hx : Rd W (.slice pB sB.length cB) sB) => good15_any kB yB nB _ sB bB xB pBi mB cBi W hbB hx hfB hmB hxB)
  rw [hgB] at HGB
  have HNA := Lib.hid (fun (W : World) => isNumber_any kA yA nA (.slice pA sA.length cA) bA xA (.slice pAi mA cAi) W)
  rw [show numP kA = true from hnA] at HNA
  have HNB := Lib.hid (fun (W : World) => isNumber_any kB yB nB (.slice pB sB.length cB) bB xB (.slice pBi mB cBi) W)
  rw [show numP kB = true from hnB] at HNB
  have HBF := Lib.hid hbf
  have HWA := Lib.hid (fun (W : World) => isWhole_any kA yA nA (.slice pA sA.length cA) bA xA (.slice pAi mA cAi) W)
  have HWB := Lib.hid (fun (W : World) => isWhole_any kB yB nB (.slice pB sB.length cB) bB xB (.slice pBi mB cBi) W)
  obtain ⟨qa, hqa⟩ : ∃ q, wholeP kA = q := ⟨_, rfl⟩
  obtain ⟨qb, hqb⟩ : ∃ q, wholeP kB = q := ⟨_, rfl⟩
  rw [hqa] at HWA hww
  rw [hqb] at HWB hww
  clear hrA hrB hfA hfB hpA hpB hbA hbB hmA hmB hxA hxB hgA hgB hnA hnB hbf hqa hqb
  obtain ⟨fa0, fa1, fa2, fa3, fa4, fa5, fa6⟩ := HXA.out
  obtain ⟨fd0, fd1, fd2, fd3, fd4, fd5, fd6⟩ := HXB.out
  cases qa with
  | false =>
    clear hww
    go_enter Tryz.func5, Tryz.ntmps5
    go_wp2_with (first
      | (go_at_call 19; (try rw [hW1]); (with_reducible refine (HGA.out _ HRA.out).mono ?_); rintro e vn ⟨rfl, hvv⟩; obtain ⟨HB, HXA, HXB, HV, HRA, HRB, ⟨fa0, fa1, fa2, fa3, fa4, fa5, fa6⟩, fd0, fd1, fd2, fd3, fd4, fd5, fd6⟩ := keep2all hvv HB HXA HXB HV HRA HRB; clear hvv)
      | (go_at_call 19; (try rw [hW1]); (with_reducible refine (HGB.out _ HRB.out).mono ?_); rintro e vn ⟨rfl, hvv⟩; obtain ⟨HB, HXA, HXB, HV, HRA, HRB, ⟨fa0, fa1, fa2, fa3, fa4, fa5, fa6⟩, fd0, fd1, fd2, fd3, fd4, fd5, fd6⟩ := keep2all hvv HB HXA HXB HV HRA HRB; clear hvv)
      | (go_at_call 20; (try rw [hW1]); (with_reducible refine (HWA.out _).mono ?_); rintro e vn ⟨rfl, hvv⟩; obtain ⟨HB, HXA, HXB, HV, HRA, HRB, ⟨fa0, fa1, fa2, fa3, fa4, fa5, fa6⟩, fd0, fd1, fd2, fd3, fd4, fd5, fd6⟩ := keep2all hvv HB HXA HXB HV HRA HRB; clear hvv)
      | (go_at_call 20; (try rw [hW1]); (with_reducible refine (HWB.out _).mono ?_); rintro e vn ⟨rfl, hvv⟩; obtain ⟨HB, HXA, HXB, HV, HRA, HRB, ⟨fa0, fa1, fa2, fa3, fa4, fa5, fa6⟩, fd0, fd1, fd2, fd3, fd4, fd5, fd6⟩ := keep2all hvv HB HXA HXB HV HRA HRB; clear hvv)
      | (go_at_call 23; (try rw [hW1]); (with_reducible refine (HNA.out _).mono ?_); rintro e vn ⟨rfl, hvv⟩; obtain ⟨HB, HXA, HXB, HV, HRA, HRB, ⟨fa0, fa1, fa2, fa3, fa4, fa5, fa6⟩, fd0, fd1, fd2, fd3, fd4, fd5, fd6⟩ := keep2all hvv HB HXA HXB HV HRA HRB; clear hvv)
      | (go_at_call 23; (try rw [hW1]); (with_reducible refine (HNB.out _).mono ?_); rintro e vn ⟨rfl, hvv⟩; obtain ⟨HB, HXA, HXB, HV, HRA, HRB, ⟨fa0, fa1, fa2, fa3, fa4, fa5, fa6⟩, fd0, fd1, fd2, fd3, fd4, fd5, fd6⟩ := keep2all hvv HB HXA HXB HV HRA HRB; clear hvv)
      | (go_at_call 24; have hcon := HBF.out _ HB.out; (with_reducible refine hcon.mono ?_); rintro e vw ⟨n2r, p2, k2, ws, rfl, hM2, hL2, hS2, hvv⟩; have HLE := Lib.hid (World.block_lt_of_cell? _ _ HV.out.b.c0); obtain ⟨HB, HXA, HXB, HV, HRA, HRB, ⟨fa0, fa1, fa2, fa3, fa4, fa5, fa6⟩, fd0, fd1, fd2, fd3, fd4, fd5, fd6⟩ := keep2all hvv HB HXA HXB HV HRA HRB; obtain ⟨⟨vc0, vc1, vc2, vc3, vc4, vc5, vc6⟩, vf0, vf1, vf2, vf3, vf4, vf5, vf6⟩ := HV.out; have HM2 := Lib.hid hM2; have HL2 := Lib.hid hL2; have HS2 := Lib.hid hS2; clear hvv hM2 hL2 hS2 hcon)
      | fail)
    obtain ⟨z7, zb⟩ := fin7b HV HB (.int .i64 K) (.bool false) (.bool n2r) (.slice p2 ws.length k2) (.int .u64 (BB : Int)) (.string ⟨#[]⟩) (.slice none 0 0)
    have zm := put7_mu HM2.out HLE.out (.int .i64 K) (.bool false) (.bool n2r) (.slice p2 ws.length k2) (.int .u64 (BB : Int)) (.string ⟨#[]⟩) (.slice none 0 0)
    unfold put7 at z7 zm zb
    exact bodyPost_ret (v := .tuple #[.agg #[.int .i64 K, .bool false, .bool n2r, .slice p2 ws.length k2, .int .u64 (BB : Int), .string ⟨#[]⟩, .slice none 0 0], .int .i64 X]) (by simp [results, Tryz.results5, go_sem, z7.c0, z7.c1, z7.c2, z7.c3, z7.c4, z7.c5, z7.c6]) rfl ⟨n2r, p2, k2, ws, rfl, zm.low (by have := HLE.out; omega), HL2.out, HS2.out, zb⟩
  | true =>
    obtain rfl : qb = false := by simpa using hww
    clear hww
    go_enter Tryz.func5, Tryz.ntmps5
    go_wp2_with (first
      | (go_at_call 19; (try rw [hW1]); (with_reducible refine (HGA.out _ HRA.out).mono ?_); rintro e vn ⟨rfl, hvv⟩; obtain ⟨HB, HXA, HXB, HV, HRA, HRB, ⟨fa0, fa1, fa2, fa3, fa4, fa5, fa6⟩, fd0, fd1, fd2, fd3, fd4, fd5, fd6⟩ := keep2all hvv HB HXA HXB HV HRA HRB; clear hvv)
      | (go_at_call 19; (try rw [hW1]); (with_reducible refine (HGB.out _ HRB.out).mono ?_); rintro e vn ⟨rfl, hvv⟩; obtain ⟨HB, HXA, HXB, HV, HRA, HRB, ⟨fa0, fa1, fa2, fa3, fa4, fa5, fa6⟩, fd0, fd1, fd2, fd3, fd4, fd5, fd6⟩ := keep2all hvv HB HXA HXB HV HRA HRB; clear hvv)
      | (go_at_call 20; (try rw [hW1]); (with_reducible refine (HWA.out _).mono ?_); rintro e vn ⟨rfl, hvv⟩; obtain ⟨HB, HXA, HXB, HV, HRA, HRB, ⟨fa0, fa1, fa2, fa3, fa4, fa5, fa6⟩, fd0, fd1, fd2, fd3, fd4, fd5, fd6⟩ := keep2all hvv HB HXA HXB HV HRA HRB; clear hvv)
      | (go_at_call 20; (try rw [hW1]); (with_reducible refine (HWB.out _).mono ?_); rintro e vn ⟨rfl, hvv⟩; obtain ⟨HB, HXA, HXB, HV, HRA, HRB, ⟨fa0, fa1, fa2, fa3, fa4, fa5, fa6⟩, fd0, fd1, fd2, fd3, fd4, fd5, fd6⟩ := keep2all hvv HB HXA HXB HV HRA HRB; clear hvv)
      | (go_at_call 23; (try rw [hW1]); (with_reducible refine (HNA.out _).mono ?_); rintro e vn ⟨rfl, hvv⟩; obtain ⟨HB, HXA, HXB, HV, HRA, HRB, ⟨fa0, fa1, fa2, fa3, fa4, fa5, fa6⟩, fd0, fd1, fd2, fd3, fd4, fd5, fd6⟩ := keep2all hvv HB HXA HXB HV HRA HRB; clear hvv)
      | (go_at_call 23; (try rw [hW1]); (with_reducible refine (HNB.out _).mono ?_); rintro e vn ⟨rfl, hvv⟩; obtain ⟨HB, HXA, HXB, HV, HRA, HRB, ⟨fa0, fa1, fa2, fa3, fa4, fa5, fa6⟩, fd0, fd1, fd2, fd3, fd4, fd5, fd6⟩ := keep2all hvv HB HXA HXB HV HRA HRB; clear hvv)
      | (go_at_call 24; have hcon := HBF.out _ HB.out; (with_reducible refine hcon.mono ?_); rintro e vw ⟨n2r, p2, k2, ws, rfl, hM2, hL2, hS2, hvv⟩; have HLE := Lib.hid (World.block_lt_of_cell? _ _ HV.out.b.c0); obtain ⟨HB, HXA, HXB, HV, HRA, HRB, ⟨fa0, fa1, fa2, fa3, fa4, fa5, fa6⟩, fd0, fd1, fd2, fd3, fd4, fd5, fd6⟩ := keep2all hvv HB HXA HXB HV HRA HRB; obtain ⟨⟨vc0, vc1, vc2, vc3, vc4, vc5, vc6⟩, vf0, vf1, vf2, vf3, vf4, vf5, vf6⟩ := HV.out; have HM2 := Lib.hid hM2; have HL2 := Lib.hid hL2; have HS2 := Lib.hid hS2; clear hvv hM2 hL2 hS2 hcon)
      | fail)
    obtain ⟨z7, zb⟩ := fin7b HV HB (.int .i64 K) (.bool false) (.bool n2r) (.slice p2 ws.length k2) (.int .u64 (BB : Int)) (.string ⟨#[]⟩) (.slice none 0 0)
    have zm := put7_mu HM2.out HLE.out (.int .i64 K) (.bool false) (.bool n2r) (.slice p2 ws.length k2) (.int .u64 (BB : Int)) (.string ⟨#[]⟩) (.slice none 0 0)
    unfold put7 at z7 zm zb
    exact bodyPost_ret (v := .tuple #[.agg #[.int .i64 K, .bool false, .bool n2r, .slice p2 ws.length k2, .int .u64 (BB : Int), .string ⟨#[]⟩, .slice none 0 0], .int .i64 X]) (by simp [results, Tryz.results5, go_sem, z7.c0, z7.c1, z7.c2, z7.c3, z7.c4, z7.c5, z7.c6]) rfl ⟨n2r, p2, k2, ws, rfl, zm.low (by have := HLE.out; omega), HL2.out, HS2.out, zb⟩
set_option maxRecDepth 100000 in
set_option maxHeartbeats 8000000 in
theorem bin_rep (yA nA : Bool) (uA : Value) (sA : List Int) (bA : Nat) (xA : ByteArray) (pAi : Option Addr) (mA cAi : Nat) (kB : Int) (yB nB : Bool) (uB : Value) (sB : List Int) (bB : Nat) (xB : ByteArray) (pBi : Option Addr) (mB cBi : Nat) (w : World) (hrA : Rd w uA sA) (hfA : Fit sA) (hbA : bA < 18446744073709551616) (hmA : (mA : Int) ≤ 9223372036854775807) (hxA : (xA.size : Int) ≤ 9223372036854775807) (hrB : Rd w uB sB) (hfB : Fit sB) (hbB : bB < 18446744073709551616) (hmB : (mB : Int) ≤ 9223372036854775807) (hxB : (xB.size : Int) ≤ 9223372036854775807) (hgA : goodP 4 yA nA sA bA xA mA = true) (hgB : goodP kB yB nB sB bB xB mB = true) (hwB : wholeP kB = true) (K : Int) (SS : ByteArray) (X : Int) (hrp : ∀ (n1 : Bool) (u1 : Value) (xs : List Int) (W : World), Rd W u1 xs → Sgn B18 n1 xs (zP kB yB nB sB) → xs.length ≤ 30 → Calls Tryz.prog 25 #[.string xA, .agg #[.bool n1, u1]] W (ValT K 0 0 SS X W)) :
    Calls Tryz.prog 5 #[.int .i64 3, .agg #[.int .i64 4, .bool yA, .bool nA, uA, .int .u64 (bA : Int), .string xA, .slice pAi mA cAi], .agg #[.int .i64 kB, .bool yB, .bool nB, uB, .int .u64 (bB : Int), .string xB, .slice pBi mB cBi]] w (ValT K 0 0 SS X w) := by
  obtain ⟨pA, cA, rfl, hcA, hvA, hpA⟩ := rd_form hrA
  obtain ⟨pB, cB, rfl, hcB, hvB, hpB⟩ := rd_form hrB
  obtain ⟨W1, hW1, HB, HXA, HXB, HV, HLT⟩ := pre2 w (.int .i64 4) (.bool yA) (.bool nA) (.slice pA sA.length cA) (.int .u64 (bA : Int)) (.string xA) (.slice pAi mA cAi) (.int .i64 kB) (.bool yB) (.bool nB) (.slice pB sB.length cB) (.int .u64 (bB : Int)) (.string xB) (.slice pBi mB cBi)
  have HRA := Lib.hid (hrA.keep HB.out)
  have HRB := Lib.hid (hrB.keep HB.out)
  have HGA := Lib.hid (fun (W : World) (hx : Rd W (.slice pA sA.length cA) sA) => good15_any 4 yA nA _ sA bA xA pAi mA cAi W hbA hx hfA hmA hxA)
  rw [hgA] at HGA
  have HGB := Lib.hid (fun (W : World) (hx : Rd W (.slice pB sB.length cB) sB) => good15_any kB yB nB _ sB bB xB pBi mB cBi W hbB hx hfB hmB hxB)
  rw [hgB] at HGB
  have HWA := Lib.hid (fun (W : World) => isWhole_any 4 yA nA (.slice pA sA.length cA) bA xA (.slice pAi mA cAi) W)
  rw [show wholeP 4 = false from (by decide)] at HWA
  have HNA := Lib.hid (fun (W : World) => isNumber_any 4 yA nA (.slice pA sA.length cA) bA xA (.slice pAi mA cAi) W)
  rw [show numP 4 = false from (by decide)] at HNA
  have HWB := Lib.hid (fun (W : World) => isWhole_any kB yB nB (.slice pB sB.length cB) bB xB (.slice pBi mB cBi) W)
  rw [show wholeP kB = true from hwB] at HWB
  have CB := Lib.hid (fun (W : World) (hx : Rd W (.slice pB sB.length cB) sB) => toBig_any kB yB nB _ sB bB xB (.slice pBi mB cBi) W hx hfB (good_k2 hgB))
  have HRP := Lib.hid hrp
  clear hrA hrB hfA hfB hpA hpB hbA hbB hmA hmB hxA hxB hgA hgB hwB hrp
  obtain ⟨fa0, fa1, fa2, fa3, fa4, fa5, fa6⟩ := HXA.out
  obtain ⟨fd0, fd1, fd2, fd3, fd4, fd5, fd6⟩ := HXB.out
  go_enter Tryz.func5, Tryz.ntmps5
  go_upto_region 14 with (first
    | (go_at_call 19; (try rw [hW1]); (with_reducible refine (HGA.out _ HRA.out).mono ?_); rintro e vn ⟨rfl, hvv⟩; obtain ⟨HB, HXA, HXB, HV, HRA, HRB, ⟨fa0, fa1, fa2, fa3, fa4, fa5, fa6⟩, fd0, fd1, fd2, fd3, fd4, fd5, fd6⟩ := keep2all hvv HB HXA HXB HV HRA HRB; clear hvv)
    | (go_at_call 19; (try rw [hW1]); (with_reducible refine (HGB.out _ HRB.out).mono ?_); rintro e vn ⟨rfl, hvv⟩; obtain ⟨HB, HXA, HXB, HV, HRA, HRB, ⟨fa0, fa1, fa2, fa3, fa4, fa5, fa6⟩, fd0, fd1, fd2, fd3, fd4, fd5, fd6⟩ := keep2all hvv HB HXA HXB HV HRA HRB; clear hvv)
    | (go_at_call 20; (try rw [hW1]); (with_reducible refine (HWA.out _).mono ?_); rintro e vn ⟨rfl, hvv⟩; obtain ⟨HB, HXA, HXB, HV, HRA, HRB, ⟨fa0, fa1, fa2, fa3, fa4, fa5, fa6⟩, fd0, fd1, fd2, fd3, fd4, fd5, fd6⟩ := keep2all hvv HB HXA HXB HV HRA HRB; clear hvv)
    | (go_at_call 23; (try rw [hW1]); (with_reducible refine (HNA.out _).mono ?_); rintro e vn ⟨rfl, hvv⟩; obtain ⟨HB, HXA, HXB, HV, HRA, HRB, ⟨fa0, fa1, fa2, fa3, fa4, fa5, fa6⟩, fd0, fd1, fd2, fd3, fd4, fd5, fd6⟩ := keep2all hvv HB HXA HXB HV HRA HRB; clear hvv)
    | (go_at_call 20; (try rw [hW1]); (with_reducible refine (HWB.out _).mono ?_); rintro e vn ⟨rfl, hvv⟩; obtain ⟨HB, HXA, HXB, HV, HRA, HRB, ⟨fa0, fa1, fa2, fa3, fa4, fa5, fa6⟩, fd0, fd1, fd2, fd3, fd4, fd5, fd6⟩ := keep2all hvv HB HXA HXB HV HRA HRB; clear hvv)
    | fail)
  obtain ⟨⟨vc0, vc1, vc2, vc3, vc4, vc5, vc6⟩, vf0, vf1, vf2, vf3, vf4, vf5, vf6⟩ := HV.out
  have HRBd := Lib.hid (show Rd vn.drew (.slice pB sB.length cB) sB from HRB.out)
  go_region_held3 (fun w' => w'.cell? ⟨w.heap.size, 0, none⟩ = some (.int .i64 4) ∧ w'.cell? ⟨w.heap.size, 1, none⟩ = some (.bool yA) ∧ w'.cell? ⟨w.heap.size, 2, none⟩ = some (.bool nA) ∧ w'.cell? ⟨w.heap.size, 3, none⟩ = some (.slice pA sA.length cA) ∧ w'.cell? ⟨w.heap.size, 4, none⟩ = some (.int .u64 (bA : Int)) ∧ w'.cell? ⟨w.heap.size, 5, none⟩ = some (.string xA) ∧ w'.cell? ⟨w.heap.size, 6, none⟩ = some (.slice pAi mA cAi) ∧ w'.cell? ⟨w.heap.size + 1, 0, none⟩ = some (.int .i64 kB) ∧ w'.cell? ⟨w.heap.size + 1, 1, none⟩ = some (.bool yB) ∧ w'.cell? ⟨w.heap.size + 1, 2, none⟩ = some (.bool nB) ∧ w'.cell? ⟨w.heap.size + 1, 3, none⟩ = some (.slice pB sB.length cB) ∧ w'.cell? ⟨w.heap.size + 1, 4, none⟩ = some (.int .u64 (bB : Int)) ∧ w'.cell? ⟨w.heap.size + 1, 5, none⟩ = some (.string xB) ∧ w'.cell? ⟨w.heap.size + 1, 6, none⟩ = some (.slice pBi mB cBi))
    (first | ((repeat' (first | with_reducible assumption | apply And.intro | with_reducible refine drew_cell ?_)); done) | ((with_reducible refine put7_two (B := w.heap.size + 2) (A := w.heap.size) (D := w.heap.size + 1) ?_ (by omega) (by omega) _ _ _ _ _ _ _); ((repeat' (first | with_reducible assumption | apply And.intro)); done)) | fail)
    (first
     | (go_at_call 22; (with_reducible refine (CB.out _ HRBd.out).mono ?_); rintro e v6 ⟨nB1, pB1, cB1, wB1, rfl, hRn, hSn, hLn, hvv⟩; have hvw := Below.trans (drewM (Below.refl vn.heap.size vn)) hvv; obtain ⟨HB, HXA, HXB, HV, HRA, HRB, ⟨fa0, fa1, fa2, fa3, fa4, fa5, fa6⟩, fd0, fd1, fd2, fd3, fd4, fd5, fd6⟩ := keep2all hvw HB HXA HXB HV HRA HRB; have RB := Lib.hid hRn; have SB := Lib.hid hSn; have LB := Lib.hid hLn; clear hvv hvw hRn hSn hLn)
     | (go_at_call 25; have hcon := HRP.out _ _ _ v6 RB.out SB.out LB.out; (with_reducible refine hcon.mono ?_); rintro e v7 ⟨n2r, p2, k2, ws, rfl, hM2, hL2, hS2, hvv⟩; have HLE := Lib.hid (show w.heap.size + 2 < v6.heap.size from World.block_lt_of_cell? _ _ HV.out.b.c0); obtain ⟨HB, HXA, HXB, HV, HRA, HRB, ⟨fa0, fa1, fa2, fa3, fa4, fa5, fa6⟩, fd0, fd1, fd2, fd3, fd4, fd5, fd6⟩ := keep2all hvv HB HXA HXB HV HRA HRB; obtain ⟨⟨vc0, vc1, vc2, vc3, vc4, vc5, vc6⟩, vf0, vf1, vf2, vf3, vf4, vf5, vf6⟩ := HV.out; have HM2 := Lib.hid hM2; have HL2 := Lib.hid hL2; have HS2 := Lib.hid hS2; clear hvv hM2 hL2 hS2 hcon)
     | fail)
  go_wp2_with fail
  obtain ⟨z7, zb⟩ := fin7b HV HB (.int .i64 K) (.bool false) (.bool n2r) (.slice p2 ws.length k2) (.int .u64 0) (.string SS) (.slice none 0 0)
  have zm := put7_mu HM2.out HLE.out (.int .i64 K) (.bool false) (.bool n2r) (.slice p2 ws.length k2) (.int .u64 0) (.string SS) (.slice none 0 0)
  unfold put7 at z7 zm zb
  exact bodyPost_ret (v := .tuple #[.agg #[.int .i64 K, .bool false, .bool n2r, .slice p2 ws.length k2, .int .u64 0, .string SS, .slice none 0 0], .int .i64 X]) (by simp [results, Tryz.results5, go_sem, z7.c0, z7.c1, z7.c2, z7.c3, z7.c4, z7.c5, z7.c6]) rfl ⟨n2r, p2, k2, ws, rfl, zm.low (by have := HLE.out; omega), HL2.out, HS2.out, zb⟩
set_option maxRecDepth 100000 in
set_option maxHeartbeats 4000000 in
theorem rep_neg (s : ByteArray) (n1 : Bool) (u1 : Value) (xs : List Int) (z : Int) (w : World) (hr : Rd w u1 xs) (hs : Sgn B18 n1 xs z) (hl : xs.length ≤ 30) (hsz : s.size ≤ 20000) (hn : n1 = true) :
    Calls Tryz.prog 25 #[.string s, .agg #[.bool n1, u1]] w (ValT 4 0 0 ⟨#[]⟩ 0 w) := by
  obtain ⟨p, c, rfl, hc, hm, hp⟩ := rd_form hr
  obtain ⟨W1, hW1⟩ : ∃ x, (w.alloc (.cells #[.bool n1, .slice p xs.length c] 24)).alloc (.cells #[.int .i64 0, .bool false, .bool false, .slice none 0 0, .int .u64 0, .string ⟨#[]⟩, .slice none 0 0] 28) = x := ⟨_, rfl⟩
  have HB := Lib.hid (show Below w.heap.size w W1 by rw [← hW1]; exact ((Below.refl _ _).alloc (Nat.le_refl _) _).alloc (by simp) _)
  have HX := Lib.hid (show Box2 W1 w.heap.size (.bool n1) (.slice p xs.length c) by rw [← hW1]; exact (Box2.new _ _ _ _ rfl).alloc _)
  have HV := Lib.hid (show Bw7 W1 (w.heap.size + 1) (.int .i64 0) (.bool false) (.bool false) (.slice none 0 0) (.int .u64 0) (.string ⟨#[]⟩) (.slice none 0 0) by rw [← hW1]; exact Bw7.new _ _ _ _ _ _ _ _ _ (by simp))
  subst hn
  clear hr hs hl hp hsz 
  have a0 := HX.out.c0
  have a1 := HX.out.c1
  go_enter Tryz.func25, Tryz.ntmps25
  obtain ⟨⟨vc0, vc1, vc2, vc3, vc4, vc5, vc6⟩, vf0, vf1, vf2, vf3, vf4, vf5, vf6⟩ := HV.out
  go_wp2_with fail
  obtain ⟨z7, zb⟩ := fin7 HV HB (.int .i64 4) (.bool false) (.bool false) (.slice none 0 0) (.int .u64 0) (.string ⟨#[]⟩) (.slice none 0 0)
  unfold put7 at z7 zb
  exact bodyPost_ret (v := .tuple #[.agg #[.int .i64 4, .bool false, .bool false, .slice none 0 0, .int .u64 0, .string ⟨#[]⟩, .slice none 0 0], .int .i64 0]) (by simp [results, Tryz.results25, go_sem, z7.c0, z7.c1, z7.c2, z7.c3, z7.c4, z7.c5, z7.c6]) rfl (valt_none zb)
set_option maxRecDepth 100000 in
set_option maxHeartbeats 4000000 in
theorem rep_zero (s : ByteArray) (n1 : Bool) (u1 : Value) (xs : List Int) (z : Int) (w : World) (hr : Rd w u1 xs) (hs : Sgn B18 n1 xs z) (hl : xs.length ≤ 30) (hsz : s.size ≤ 20000) (hn : n1 = false) (h0 : xs.length = 0) :
    Calls Tryz.prog 25 #[.string s, .agg #[.bool n1, u1]] w (ValT 4 0 0 ⟨#[]⟩ 0 w) := by
  obtain ⟨p, c, rfl, hc, hm, hp⟩ := rd_form hr
  obtain ⟨W1, hW1⟩ : ∃ x, (w.alloc (.cells #[.bool n1, .slice p xs.length c] 24)).alloc (.cells #[.int .i64 0, .bool false, .bool false, .slice none 0 0, .int .u64 0, .string ⟨#[]⟩, .slice none 0 0] 28) = x := ⟨_, rfl⟩
  have HB := Lib.hid (show Below w.heap.size w W1 by rw [← hW1]; exact ((Below.refl _ _).alloc (Nat.le_refl _) _).alloc (by simp) _)
  have HX := Lib.hid (show Box2 W1 w.heap.size (.bool n1) (.slice p xs.length c) by rw [← hW1]; exact (Box2.new _ _ _ _ rfl).alloc _)
  have HV := Lib.hid (show Bw7 W1 (w.heap.size + 1) (.int .i64 0) (.bool false) (.bool false) (.slice none 0 0) (.int .u64 0) (.string ⟨#[]⟩) (.slice none 0 0) by rw [← hW1]; exact Bw7.new _ _ _ _ _ _ _ _ _ (by simp))
  subst hn
  have q1 : ((xs.length : Int) == 0) = true := by simpa using h0
  clear hr hs hl hp hsz h0
  have a0 := HX.out.c0
  have a1 := HX.out.c1
  go_enter Tryz.func25, Tryz.ntmps25
  obtain ⟨⟨vc0, vc1, vc2, vc3, vc4, vc5, vc6⟩, vf0, vf1, vf2, vf3, vf4, vf5, vf6⟩ := HV.out
  go_wp2_with fail
  obtain ⟨z7, zb⟩ := fin7 HV HB (.int .i64 4) (.bool false) (.bool false) (.slice none 0 0) (.int .u64 0) (.string ⟨#[]⟩) (.slice none 0 0)
  unfold put7 at z7 zb
  exact bodyPost_ret (v := .tuple #[.agg #[.int .i64 4, .bool false, .bool false, .slice none 0 0, .int .u64 0, .string ⟨#[]⟩, .slice none 0 0], .int .i64 0]) (by simp [results, Tryz.results25, go_sem, z7.c0, z7.c1, z7.c2, z7.c3, z7.c4, z7.c5, z7.c6]) rfl (valt_none zb)
set_option maxRecDepth 100000 in
set_option maxHeartbeats 4000000 in
theorem rep_nil (s : ByteArray) (n1 : Bool) (u1 : Value) (xs : List Int) (z : Int) (w : World) (hr : Rd w u1 xs) (hs : Sgn B18 n1 xs z) (hl : xs.length ≤ 30) (hsz : s.size ≤ 20000) (hn : n1 = false) (h0 : 0 < xs.length) (he : s.size = 0) :
    Calls Tryz.prog 25 #[.string s, .agg #[.bool n1, u1]] w (ValT 4 0 0 ⟨#[]⟩ 0 w) := by
  obtain ⟨p, c, rfl, hc, hm, hp⟩ := rd_form hr
  obtain ⟨W1, hW1⟩ : ∃ x, (w.alloc (.cells #[.bool n1, .slice p xs.length c] 24)).alloc (.cells #[.int .i64 0, .bool false, .bool false, .slice none 0 0, .int .u64 0, .string ⟨#[]⟩, .slice none 0 0] 28) = x := ⟨_, rfl⟩
  have HB := Lib.hid (show Below w.heap.size w W1 by rw [← hW1]; exact ((Below.refl _ _).alloc (Nat.le_refl _) _).alloc (by simp) _)
  have HX := Lib.hid (show Box2 W1 w.heap.size (.bool n1) (.slice p xs.length c) by rw [← hW1]; exact (Box2.new _ _ _ _ rfl).alloc _)
  have HV := Lib.hid (show Bw7 W1 (w.heap.size + 1) (.int .i64 0) (.bool false) (.bool false) (.slice none 0 0) (.int .u64 0) (.string ⟨#[]⟩) (.slice none 0 0) by rw [← hW1]; exact Bw7.new _ _ _ _ _ _ _ _ _ (by simp))
  subst hn
  have q1 : ((xs.length : Int) == 0) = false := by rw [beq_eq_false_iff_ne]; omega
  have q2 : s.toList.isEmpty = true := by rw [be_emptyB]; simpa using he
  clear hr hs hl hp hsz h0 he
  have a0 := HX.out.c0
  have a1 := HX.out.c1
  go_enter Tryz.func25, Tryz.ntmps25
  obtain ⟨⟨vc0, vc1, vc2, vc3, vc4, vc5, vc6⟩, vf0, vf1, vf2, vf3, vf4, vf5, vf6⟩ := HV.out
  go_wp2_with fail
  obtain ⟨z7, zb⟩ := fin7 HV HB (.int .i64 4) (.bool false) (.bool false) (.slice none 0 0) (.int .u64 0) (.string ⟨#[]⟩) (.slice none 0 0)
  unfold put7 at z7 zb
  exact bodyPost_ret (v := .tuple #[.agg #[.int .i64 4, .bool false, .bool false, .slice none 0 0, .int .u64 0, .string ⟨#[]⟩, .slice none 0 0], .int .i64 0]) (by simp [results, Tryz.results25, go_sem, z7.c0, z7.c1, z7.c2, z7.c3, z7.c4, z7.c5, z7.c6]) rfl (valt_none zb)
set_option maxRecDepth 100000 in
set_option maxHeartbeats 4000000 in
theorem rep_far (s : ByteArray) (n1 : Bool) (u1 : Value) (xs : List Int) (z : Int) (w : World) (hr : Rd w u1 xs) (hs : Sgn B18 n1 xs z) (hl : xs.length ≤ 30) (hsz : s.size ≤ 20000) (hz : 0 < z) (he : 0 < s.size) (hI : ¬ I64 z) :
    Calls Tryz.prog 25 #[.string s, .agg #[.bool n1, u1]] w (ValT 0 0 0 ⟨#[]⟩ 2 w) := by
  obtain ⟨p, c, rfl, hc, hm, hp⟩ := rd_form hr
  obtain ⟨W1, hW1⟩ : ∃ x, (w.alloc (.cells #[.bool n1, .slice p xs.length c] 24)).alloc (.cells #[.int .i64 0, .bool false, .bool false, .slice none 0 0, .int .u64 0, .string ⟨#[]⟩, .slice none 0 0] 28) = x := ⟨_, rfl⟩
  have HB := Lib.hid (show Below w.heap.size w W1 by rw [← hW1]; exact ((Below.refl _ _).alloc (Nat.le_refl _) _).alloc (by simp) _)
  have HX := Lib.hid (show Box2 W1 w.heap.size (.bool n1) (.slice p xs.length c) by rw [← hW1]; exact (Box2.new _ _ _ _ rfl).alloc _)
  have HV := Lib.hid (show Bw7 W1 (w.heap.size + 1) (.int .i64 0) (.bool false) (.bool false) (.slice none 0 0) (.int .u64 0) (.string ⟨#[]⟩) (.slice none 0 0) by rw [← hW1]; exact Bw7.new _ _ _ _ _ _ _ _ _ (by simp))
  have hn : n1 = false := by rw [hs.neg_iff (by decide)]; exact decide_eq_false (by omega)
  subst hn
  have h0 : 0 < xs.length := Nat.pos_of_ne_zero fun h => by have := (hs.empty (by decide)).1 h; omega
  have q1 : ((xs.length : Int) == 0) = false := by rw [beq_eq_false_iff_ne]; omega
  have q2 : s.toList.isEmpty = false := by rw [be_emptyB]; exact decide_eq_false (by omega)
  have HI := Lib.hid (wint_good false _ xs z W1 (hr.keep HB.out) hs hl)
  have HNI := Lib.hid hI
  clear hr hs hl hp hsz hz he h0 hI
  have a0 := HX.out.c0
  have a1 := HX.out.c1
  go_enter Tryz.func25, Tryz.ntmps25
  obtain ⟨⟨vc0, vc1, vc2, vc3, vc4, vc5, vc6⟩, vf0, vf1, vf2, vf3, vf4, vf5, vf6⟩ := HV.out
  go_wp2_with (first
    | (go_at_call 61; (try rw [hW1]); (with_reducible refine HI.out.mono ?_); rintro e vn ⟨mz, er, rfl, hcase, hvv⟩; obtain ⟨rfl, rfl⟩ : mz = 0 ∧ er = 7 := (by rcases hcase with ⟨h, _, _⟩ | ⟨_, h1, h2⟩; exact absurd h HNI.out; exact ⟨h1, h2⟩); clear hcase; replace HB := Lib.hid (HB.out.trans (hvv.mono HB.out.size)); replace HV := Lib.hid (HV.out.keep hvv); obtain ⟨⟨vc0, vc1, vc2, vc3, vc4, vc5, vc6⟩, vf0, vf1, vf2, vf3, vf4, vf5, vf6⟩ := HV.out; clear hvv)
    | fail)
  obtain ⟨z7, zb⟩ := fin7 HV HB (.int .i64 0) (.bool false) (.bool false) (.slice none 0 0) (.int .u64 0) (.string ⟨#[]⟩) (.slice none 0 0)
  unfold put7 at z7 zb
  exact bodyPost_ret (v := .tuple #[.agg #[.int .i64 0, .bool false, .bool false, .slice none 0 0, .int .u64 0, .string ⟨#[]⟩, .slice none 0 0], .int .i64 2]) (by simp [results, Tryz.results25, go_sem, z7.c0, z7.c1, z7.c2, z7.c3, z7.c4, z7.c5, z7.c6]) rfl (valt_none zb)
set_option maxRecDepth 100000 in
set_option maxHeartbeats 4000000 in
theorem rep_long (s : ByteArray) (n1 : Bool) (u1 : Value) (xs : List Int) (z : Int) (w : World) (hr : Rd w u1 xs) (hs : Sgn B18 n1 xs z) (hl : xs.length ≤ 30) (hsz : s.size ≤ 20000) (hz : 0 < z) (he : 0 < s.size) (hI : I64 z) (hL : 20000 / s.size < z.toNat) :
    Calls Tryz.prog 25 #[.string s, .agg #[.bool n1, u1]] w (ValT 0 0 0 ⟨#[]⟩ 2 w) := by
  obtain ⟨p, c, rfl, hc, hm, hp⟩ := rd_form hr
  obtain ⟨W1, hW1⟩ : ∃ x, (w.alloc (.cells #[.bool n1, .slice p xs.length c] 24)).alloc (.cells #[.int .i64 0, .bool false, .bool false, .slice none 0 0, .int .u64 0, .string ⟨#[]⟩, .slice none 0 0] 28) = x := ⟨_, rfl⟩
  have HB := Lib.hid (show Below w.heap.size w W1 by rw [← hW1]; exact ((Below.refl _ _).alloc (Nat.le_refl _) _).alloc (by simp) _)
  have HX := Lib.hid (show Box2 W1 w.heap.size (.bool n1) (.slice p xs.length c) by rw [← hW1]; exact (Box2.new _ _ _ _ rfl).alloc _)
  have HV := Lib.hid (show Bw7 W1 (w.heap.size + 1) (.int .i64 0) (.bool false) (.bool false) (.slice none 0 0) (.int .u64 0) (.string ⟨#[]⟩) (.slice none 0 0) by rw [← hW1]; exact Bw7.new _ _ _ _ _ _ _ _ _ (by simp))
  have hn : n1 = false := by rw [hs.neg_iff (by decide)]; exact decide_eq_false (by omega)
  subst hn
  have h0 : 0 < xs.length := Nat.pos_of_ne_zero fun h => by have := (hs.empty (by decide)).1 h; omega
  have q1 : ((xs.length : Int) == 0) = false := by rw [beq_eq_false_iff_ne]; omega
  have q2 : s.toList.isEmpty = false := by rw [be_emptyB]; exact decide_eq_false (by omega)
  have HI := Lib.hid (wint_good false _ xs z W1 (hr.keep HB.out) hs hl)
  have hse : ¬ s = ByteArray.empty := fun h => by rw [h] at he; simp at he
  have qs : ((s.size : Int) == 0) = false := by rw [beq_eq_false_iff_ne]; omega
  have qd : Int.tdiv 20000 (s.size : Int) = ((20000 / s.size : Nat) : Int) := by rw [Int.tdiv_eq_ediv_of_nonneg (by decide)]; rfl
  obtain ⟨dq, hdq⟩ : ∃ d, 20000 / s.size = d := ⟨_, rfl⟩
  rw [hdq] at qd
  have hd1 : dq ≤ 20000 := by rw [← hdq]; exact Nat.div_le_self _ _
  have qw : IntKind.i64.wrap ((dq : Nat) : Int) = (dq : Int) := IntWalk.i64_in _ (by omega)
  have ql : decide ((dq : Int) < z) = true := by rw [decide_eq_true_eq, ← hdq]; omega
  have HNI := Lib.hid hI
  clear hr hs hl hp hsz hz he h0 hI hL hdq
  have a0 := HX.out.c0
  have a1 := HX.out.c1
  go_enter Tryz.func25, Tryz.ntmps25
  obtain ⟨⟨vc0, vc1, vc2, vc3, vc4, vc5, vc6⟩, vf0, vf1, vf2, vf3, vf4, vf5, vf6⟩ := HV.out
  go_wp2_with (first
    | (go_at_call 61; (try rw [hW1]); (with_reducible refine HI.out.mono ?_); rintro e vn ⟨mz, er, rfl, hcase, hvv⟩; obtain ⟨rfl, rfl⟩ : z = mz ∧ er = 0 := (by rcases hcase with ⟨_, h1, h2⟩ | ⟨h, _, _⟩; exact ⟨h1.symm, h2⟩; exact absurd HNI.out h); clear hcase; replace HB := Lib.hid (HB.out.trans (hvv.mono HB.out.size)); replace HV := Lib.hid (HV.out.keep hvv); obtain ⟨⟨vc0, vc1, vc2, vc3, vc4, vc5, vc6⟩, vf0, vf1, vf2, vf3, vf4, vf5, vf6⟩ := HV.out; clear hvv)
    | fail)
  obtain ⟨z7, zb⟩ := fin7 HV HB (.int .i64 0) (.bool false) (.bool false) (.slice none 0 0) (.int .u64 0) (.string ⟨#[]⟩) (.slice none 0 0)
  unfold put7 at z7 zb
  exact bodyPost_ret (v := .tuple #[.agg #[.int .i64 0, .bool false, .bool false, .slice none 0 0, .int .u64 0, .string ⟨#[]⟩, .slice none 0 0], .int .i64 2]) (by simp [results, Tryz.results25, go_sem, z7.c0, z7.c1, z7.c2, z7.c3, z7.c4, z7.c5, z7.c6]) rfl (valt_none zb)
/-- The text so many times. -/
def repT (s : ByteArray) (n : Nat) : ByteArray := ⟨(Lib.repeatL s.data.toList n).toArray⟩
set_option maxRecDepth 100000 in
set_option maxHeartbeats 4000000 in
theorem rep_ok (s : ByteArray) (n1 : Bool) (u1 : Value) (xs : List Int) (z : Int) (w : World) (hr : Rd w u1 xs) (hs : Sgn B18 n1 xs z) (hl : xs.length ≤ 30) (hsz : s.size ≤ 20000) (hz : 0 < z) (he : 0 < s.size) (hI : I64 z) (hL : z.toNat ≤ 20000 / s.size) :
    Calls Tryz.prog 25 #[.string s, .agg #[.bool n1, u1]] w (ValT 4 0 0 (repT s z.toNat) 0 w) := by
  obtain ⟨p, c, rfl, hc, hm, hp⟩ := rd_form hr
  obtain ⟨W1, hW1⟩ : ∃ x, (w.alloc (.cells #[.bool n1, .slice p xs.length c] 24)).alloc (.cells #[.int .i64 0, .bool false, .bool false, .slice none 0 0, .int .u64 0, .string ⟨#[]⟩, .slice none 0 0] 28) = x := ⟨_, rfl⟩
  have HB := Lib.hid (show Below w.heap.size w W1 by rw [← hW1]; exact ((Below.refl _ _).alloc (Nat.le_refl _) _).alloc (by simp) _)
  have HX := Lib.hid (show Box2 W1 w.heap.size (.bool n1) (.slice p xs.length c) by rw [← hW1]; exact (Box2.new _ _ _ _ rfl).alloc _)
  have HV := Lib.hid (show Bw7 W1 (w.heap.size + 1) (.int .i64 0) (.bool false) (.bool false) (.slice none 0 0) (.int .u64 0) (.string ⟨#[]⟩) (.slice none 0 0) by rw [← hW1]; exact Bw7.new _ _ _ _ _ _ _ _ _ (by simp))
  have hn : n1 = false := by rw [hs.neg_iff (by decide)]; exact decide_eq_false (by omega)
  subst hn
  have h0 : 0 < xs.length := Nat.pos_of_ne_zero fun h => by have := (hs.empty (by decide)).1 h; omega
  have q1 : ((xs.length : Int) == 0) = false := by rw [beq_eq_false_iff_ne]; omega
  have q2 : s.toList.isEmpty = false := by rw [be_emptyB]; exact decide_eq_false (by omega)
  have HI := Lib.hid (wint_good false _ xs z W1 (hr.keep HB.out) hs hl)
  have hse : ¬ s = ByteArray.empty := fun h => by rw [h] at he; simp at he
  have qs : ((s.size : Int) == 0) = false := by rw [beq_eq_false_iff_ne]; omega
  have qd : Int.tdiv 20000 (s.size : Int) = ((20000 / s.size : Nat) : Int) := by rw [Int.tdiv_eq_ediv_of_nonneg (by decide)]; rfl
  obtain ⟨dq, hdq⟩ : ∃ d, 20000 / s.size = d := ⟨_, rfl⟩
  rw [hdq] at qd
  have hd1 : dq ≤ 20000 := by rw [← hdq]; exact Nat.div_le_self _ _
  have qw : IntKind.i64.wrap ((dq : Nat) : Int) = (dq : Int) := IntWalk.i64_in _ (by omega)
  have ql : decide ((dq : Int) < z) = false := by rw [decide_eq_false_iff_not, ← hdq]; omega
  have hle : s.size * z.toNat ≤ 20000 := Nat.le_trans (Nat.mul_le_mul_left _ hL) (Nat.mul_div_le _ _)
  have hzz : z = ((z.toNat : Nat) : Int) := by omega
  have HRS := Lib.hid (show ∀ W : World, Calls Tryz.prog 62 #[.string s, .int .i64 ((z.toNat : Nat) : Int)] W (fun e w' => e = .returned (.string (repT s z.toNat)) ∧ Below W.heap.size W w') from fun W => Tryz.strings_Repeat s z.toNat W (by have := hI.hi; omega) (by omega))
  rw [← hzz] at HRS
  have HNI := Lib.hid hI
  clear hr hs hl hp hsz hz he h0 hI hL hdq hle hzz
  have a0 := HX.out.c0
  have a1 := HX.out.c1
  go_enter Tryz.func25, Tryz.ntmps25
  obtain ⟨⟨vc0, vc1, vc2, vc3, vc4, vc5, vc6⟩, vf0, vf1, vf2, vf3, vf4, vf5, vf6⟩ := HV.out
  go_wp2_with (first
    | (go_at_call 61; (try rw [hW1]); (with_reducible refine HI.out.mono ?_); rintro e vn ⟨mz, er, rfl, hcase, hvv⟩; obtain ⟨rfl, rfl⟩ : z = mz ∧ er = 0 := (by rcases hcase with ⟨_, h1, h2⟩ | ⟨h, _, _⟩; exact ⟨h1.symm, h2⟩; exact absurd HNI.out h); clear hcase; replace HB := Lib.hid (HB.out.trans (hvv.mono HB.out.size)); replace HV := Lib.hid (HV.out.keep hvv); obtain ⟨⟨vc0, vc1, vc2, vc3, vc4, vc5, vc6⟩, vf0, vf1, vf2, vf3, vf4, vf5, vf6⟩ := HV.out; clear hvv)
    | (go_at_call 62; (with_reducible refine (HRS.out _).mono ?_); rintro e vr ⟨rfl, hvv⟩; replace HB := Lib.hid (HB.out.trans (hvv.mono HB.out.size)); replace HV := Lib.hid (HV.out.keep hvv); obtain ⟨⟨vc0, vc1, vc2, vc3, vc4, vc5, vc6⟩, vf0, vf1, vf2, vf3, vf4, vf5, vf6⟩ := HV.out; clear hvv)
    | fail)
  obtain ⟨z7, zb⟩ := fin7 HV HB (.int .i64 4) (.bool false) (.bool false) (.slice none 0 0) (.int .u64 0) (.string (repT s z.toNat)) (.slice none 0 0)
  unfold put7 at z7 zb
  exact bodyPost_ret (v := .tuple #[.agg #[.int .i64 4, .bool false, .bool false, .slice none 0 0, .int .u64 0, .string (repT s z.toNat), .slice none 0 0], .int .i64 0]) (by simp [results, Tryz.results25, go_sem, z7.c0, z7.c1, z7.c2, z7.c3, z7.c4, z7.c5, z7.c6]) rfl (valt_none zb)
set_option maxRecDepth 100000 in
set_option maxHeartbeats 8000000 in
theorem bf_eA (kA : Int) (yA nA : Bool) (uA : Value) (sA : List Int) (bA : Nat) (xA : ByteArray) (pAi : Option Addr) (mA cAi : Nat) (kB : Int) (yB nB : Bool) (uB : Value) (sB : List Int) (bB : Nat) (xB : ByteArray) (pBi : Option Addr) (mB cBi : Nat) (w : World) (hrA : Rd w uA sA) (hfA : Fit sA) (hbA : bA < 18446744073709551616) (hmA : (mA : Int) ≤ 9223372036854775807) (hxA : (xA.size : Int) ≤ 9223372036854775807) (hrB : Rd w uB sB) (hfB : Fit sB) (hbB : bB < 18446744073709551616) (hmB : (mB : Int) ≤ 9223372036854775807) (hxB : (xB.size : Int) ≤ 9223372036854775807) (BA : Nat) (XA : Int) (BB : Nat) (XB : Int) (htA : ∀ W, Below w.heap.size w W → Calls Tryz.prog 53 #[.agg #[.int .i64 kA, .bool yA, .bool nA, uA, .int .u64 (bA : Int), .string xA, .slice pAi mA cAi]] W (OfR BA XA W)) (htB : ∀ W, Below w.heap.size w W → Calls Tryz.prog 53 #[.agg #[.int .i64 kB, .bool yB, .bool nB, uB, .int .u64 (bB : Int), .string xB, .slice pBi mB cBi]] W (OfR BB XB W)) (hX : XA ≠ 0) :
    Calls Tryz.prog 24 #[.int .i64 1, .agg #[.int .i64 kA, .bool yA, .bool nA, uA, .int .u64 (bA : Int), .string xA, .slice pAi mA cAi], .agg #[.int .i64 kB, .bool yB, .bool nB, uB, .int .u64 (bB : Int), .string xB, .slice pBi mB cBi]] w (ValT 0 0 0 ⟨#[]⟩ XA w) := by
  obtain ⟨pA, cA, rfl, hcA, hvA, hpA⟩ := rd_form hrA
  obtain ⟨pB, cB, rfl, hcB, hvB, hpB⟩ := rd_form hrB
  obtain ⟨W1, hW1, HB, HXA, HXB, HV, HLT⟩ := pre2 w (.int .i64 kA) (.bool yA) (.bool nA) (.slice pA sA.length cA) (.int .u64 (bA : Int)) (.string xA) (.slice pAi mA cAi) (.int .i64 kB) (.bool yB) (.bool nB) (.slice pB sB.length cB) (.int .u64 (bB : Int)) (.string xB) (.slice pBi mB cBi)
  have HRA := Lib.hid (hrA.keep HB.out)
  have HRB := Lib.hid (hrB.keep HB.out)
  have HTA := Lib.hid htA
  have HTB := Lib.hid htB
  have q0 : (XA != 0) = true := by simpa using hX
  clear hX
  clear hrA hrB hfA hfB hpA hpB hbA hbB hmA hmB hxA hxB htA htB
  obtain ⟨fa0, fa1, fa2, fa3, fa4, fa5, fa6⟩ := HXA.out
  obtain ⟨fd0, fd1, fd2, fd3, fd4, fd5, fd6⟩ := HXB.out
  go_enter Tryz.func24, Tryz.ntmps24
  go_wp2_with (first
    | (go_at_call 53; (try rw [hW1]); have hcon := HTA.out _ HB.out; unfold OfR at hcon; (with_reducible refine hcon.mono ?_); rintro e vn ⟨rfl, hvv⟩; obtain ⟨HB, HXA, HXB, HV, HRA, HRB, ⟨fa0, fa1, fa2, fa3, fa4, fa5, fa6⟩, fd0, fd1, fd2, fd3, fd4, fd5, fd6⟩ := keep2all hvv HB HXA HXB HV HRA HRB; obtain ⟨⟨vc0, vc1, vc2, vc3, vc4, vc5, vc6⟩, vf0, vf1, vf2, vf3, vf4, vf5, vf6⟩ := HV.out; clear hvv hcon)
    | fail)
  obtain ⟨z7, zb⟩ := fin7b HV HB (.int .i64 0) (.bool false) (.bool false) (.slice none 0 0) (.int .u64 0) (.string ⟨#[]⟩) (.slice none 0 0)
  unfold put7 at z7 zb
  exact bodyPost_ret (v := .tuple #[.agg #[.int .i64 0, .bool false, .bool false, .slice none 0 0, .int .u64 0, .string ⟨#[]⟩, .slice none 0 0], .int .i64 XA]) (by simp [results, Tryz.results24, go_sem, z7.c0, z7.c1, z7.c2, z7.c3, z7.c4, z7.c5, z7.c6]) rfl (valt_none zb)
set_option maxRecDepth 100000 in
set_option maxHeartbeats 8000000 in
theorem bf_eB (kA : Int) (yA nA : Bool) (uA : Value) (sA : List Int) (bA : Nat) (xA : ByteArray) (pAi : Option Addr) (mA cAi : Nat) (kB : Int) (yB nB : Bool) (uB : Value) (sB : List Int) (bB : Nat) (xB : ByteArray) (pBi : Option Addr) (mB cBi : Nat) (w : World) (hrA : Rd w uA sA) (hfA : Fit sA) (hbA : bA < 18446744073709551616) (hmA : (mA : Int) ≤ 9223372036854775807) (hxA : (xA.size : Int) ≤ 9223372036854775807) (hrB : Rd w uB sB) (hfB : Fit sB) (hbB : bB < 18446744073709551616) (hmB : (mB : Int) ≤ 9223372036854775807) (hxB : (xB.size : Int) ≤ 9223372036854775807) (BA : Nat) (XA : Int) (BB : Nat) (XB : Int) (htA : ∀ W, Below w.heap.size w W → Calls Tryz.prog 53 #[.agg #[.int .i64 kA, .bool yA, .bool nA, uA, .int .u64 (bA : Int), .string xA, .slice pAi mA cAi]] W (OfR BA XA W)) (htB : ∀ W, Below w.heap.size w W → Calls Tryz.prog 53 #[.agg #[.int .i64 kB, .bool yB, .bool nB, uB, .int .u64 (bB : Int), .string xB, .slice pBi mB cBi]] W (OfR BB XB W)) (hA : XA = 0) (hX : XB ≠ 0) :
    Calls Tryz.prog 24 #[.int .i64 1, .agg #[.int .i64 kA, .bool yA, .bool nA, uA, .int .u64 (bA : Int), .string xA, .slice pAi mA cAi], .agg #[.int .i64 kB, .bool yB, .bool nB, uB, .int .u64 (bB : Int), .string xB, .slice pBi mB cBi]] w (ValT 0 0 0 ⟨#[]⟩ XB w) := by
  obtain ⟨pA, cA, rfl, hcA, hvA, hpA⟩ := rd_form hrA
  obtain ⟨pB, cB, rfl, hcB, hvB, hpB⟩ := rd_form hrB
  obtain ⟨W1, hW1, HB, HXA, HXB, HV, HLT⟩ := pre2 w (.int .i64 kA) (.bool yA) (.bool nA) (.slice pA sA.length cA) (.int .u64 (bA : Int)) (.string xA) (.slice pAi mA cAi) (.int .i64 kB) (.bool yB) (.bool nB) (.slice pB sB.length cB) (.int .u64 (bB : Int)) (.string xB) (.slice pBi mB cBi)
  have HRA := Lib.hid (hrA.keep HB.out)
  have HRB := Lib.hid (hrB.keep HB.out)
  have HTA := Lib.hid htA
  have HTB := Lib.hid htB
  subst hA
  have q0 : (XB != 0) = true := by simpa using hX
  clear hX
  clear hrA hrB hfA hfB hpA hpB hbA hbB hmA hmB hxA hxB htA htB
  obtain ⟨fa0, fa1, fa2, fa3, fa4, fa5, fa6⟩ := HXA.out
  obtain ⟨fd0, fd1, fd2, fd3, fd4, fd5, fd6⟩ := HXB.out
  go_enter Tryz.func24, Tryz.ntmps24
  go_wp2_with (first
    | (go_at_call 53; (try rw [hW1]); have hcon := HTA.out _ HB.out; unfold OfR at hcon; (with_reducible refine hcon.mono ?_); rintro e vn ⟨rfl, hvv⟩; obtain ⟨HB, HXA, HXB, HV, HRA, HRB, ⟨fa0, fa1, fa2, fa3, fa4, fa5, fa6⟩, fd0, fd1, fd2, fd3, fd4, fd5, fd6⟩ := keep2all hvv HB HXA HXB HV HRA HRB; clear hvv hcon)
    | (go_at_call 53; (try rw [hW1]); have hcon := HTB.out _ HB.out; unfold OfR at hcon; (with_reducible refine hcon.mono ?_); rintro e vn ⟨rfl, hvv⟩; obtain ⟨HB, HXA, HXB, HV, HRA, HRB, ⟨fa0, fa1, fa2, fa3, fa4, fa5, fa6⟩, fd0, fd1, fd2, fd3, fd4, fd5, fd6⟩ := keep2all hvv HB HXA HXB HV HRA HRB; obtain ⟨⟨vc0, vc1, vc2, vc3, vc4, vc5, vc6⟩, vf0, vf1, vf2, vf3, vf4, vf5, vf6⟩ := HV.out; clear hvv hcon)
    | fail)
  obtain ⟨z7, zb⟩ := fin7b HV HB (.int .i64 0) (.bool false) (.bool false) (.slice none 0 0) (.int .u64 0) (.string ⟨#[]⟩) (.slice none 0 0)
  unfold put7 at z7 zb
  exact bodyPost_ret (v := .tuple #[.agg #[.int .i64 0, .bool false, .bool false, .slice none 0 0, .int .u64 0, .string ⟨#[]⟩, .slice none 0 0], .int .i64 XB]) (by simp [results, Tryz.results24, go_sem, z7.c0, z7.c1, z7.c2, z7.c3, z7.c4, z7.c5, z7.c6]) rfl (valt_none zb)
set_option maxRecDepth 100000 in
set_option maxHeartbeats 8000000 in
theorem bf_ok (kA : Int) (yA nA : Bool) (uA : Value) (sA : List Int) (bA : Nat) (xA : ByteArray) (pAi : Option Addr) (mA cAi : Nat) (kB : Int) (yB nB : Bool) (uB : Value) (sB : List Int) (bB : Nat) (xB : ByteArray) (pBi : Option Addr) (mB cBi : Nat) (w : World) (hrA : Rd w uA sA) (hfA : Fit sA) (hbA : bA < 18446744073709551616) (hmA : (mA : Int) ≤ 9223372036854775807) (hxA : (xA.size : Int) ≤ 9223372036854775807) (hrB : Rd w uB sB) (hfB : Fit sB) (hbB : bB < 18446744073709551616) (hmB : (mB : Int) ≤ 9223372036854775807) (hxB : (xB.size : Int) ≤ 9223372036854775807) (BA : Nat) (XA : Int) (BB : Nat) (XB : Int) (htA : ∀ W, Below w.heap.size w W → Calls Tryz.prog 53 #[.agg #[.int .i64 kA, .bool yA, .bool nA, uA, .int .u64 (bA : Int), .string xA, .slice pAi mA cAi]] W (OfR BA XA W)) (htB : ∀ W, Below w.heap.size w W → Calls Tryz.prog 53 #[.agg #[.int .i64 kB, .bool yB, .bool nB, uB, .int .u64 (bB : Int), .string xB, .slice pBi mB cBi]] W (OfR BB XB W)) (hA : XA = 0) (hX : XB = 0) :
    Calls Tryz.prog 24 #[.int .i64 1, .agg #[.int .i64 kA, .bool yA, .bool nA, uA, .int .u64 (bA : Int), .string xA, .slice pAi mA cAi], .agg #[.int .i64 kB, .bool yB, .bool nB, uB, .int .u64 (bB : Int), .string xB, .slice pBi mB cBi]] w (ValT 3 0 (addB BA BB) ⟨#[]⟩ 0 w) := by
  obtain ⟨pA, cA, rfl, hcA, hvA, hpA⟩ := rd_form hrA
  obtain ⟨pB, cB, rfl, hcB, hvB, hpB⟩ := rd_form hrB
  obtain ⟨W1, hW1, HB, HXA, HXB, HV, HLT⟩ := pre2 w (.int .i64 kA) (.bool yA) (.bool nA) (.slice pA sA.length cA) (.int .u64 (bA : Int)) (.string xA) (.slice pAi mA cAi) (.int .i64 kB) (.bool yB) (.bool nB) (.slice pB sB.length cB) (.int .u64 (bB : Int)) (.string xB) (.slice pBi mB cBi)
  have HRA := Lib.hid (hrA.keep HB.out)
  have HRB := Lib.hid (hrB.keep HB.out)
  have HTA := Lib.hid htA
  have HTB := Lib.hid htB
  subst hA hX
  clear hrA hrB hfA hfB hpA hpB hbA hbB hmA hmB hxA hxB htA htB
  obtain ⟨fa0, fa1, fa2, fa3, fa4, fa5, fa6⟩ := HXA.out
  obtain ⟨fd0, fd1, fd2, fd3, fd4, fd5, fd6⟩ := HXB.out
  go_enter Tryz.func24, Tryz.ntmps24
  go_wp2_with (first
    | (go_at_call 53; (try rw [hW1]); have hcon := HTA.out _ HB.out; unfold OfR at hcon; (with_reducible refine hcon.mono ?_); rintro e vn ⟨rfl, hvv⟩; obtain ⟨HB, HXA, HXB, HV, HRA, HRB, ⟨fa0, fa1, fa2, fa3, fa4, fa5, fa6⟩, fd0, fd1, fd2, fd3, fd4, fd5, fd6⟩ := keep2all hvv HB HXA HXB HV HRA HRB; clear hvv hcon)
    | (go_at_call 53; (try rw [hW1]); have hcon := HTB.out _ HB.out; unfold OfR at hcon; (with_reducible refine hcon.mono ?_); rintro e vn ⟨rfl, hvv⟩; obtain ⟨HB, HXA, HXB, HV, HRA, HRB, ⟨fa0, fa1, fa2, fa3, fa4, fa5, fa6⟩, fd0, fd1, fd2, fd3, fd4, fd5, fd6⟩ := keep2all hvv HB HXA HXB HV HRA HRB; clear hvv hcon)
    | (go_at_call 55; (with_reducible refine (add_any BA BB _).mono ?_); rintro e vn ⟨rfl, hvv⟩; obtain ⟨HB, HXA, HXB, HV, HRA, HRB, ⟨fa0, fa1, fa2, fa3, fa4, fa5, fa6⟩, fd0, fd1, fd2, fd3, fd4, fd5, fd6⟩ := keep2all hvv HB HXA HXB HV HRA HRB; clear hvv)
    | (go_at_call 54; (with_reducible refine (floats_ok (addB BA BB) _).mono ?_); rintro e vn ⟨rfl, hvv⟩; obtain ⟨HB, HXA, HXB, HV, HRA, HRB, ⟨fa0, fa1, fa2, fa3, fa4, fa5, fa6⟩, fd0, fd1, fd2, fd3, fd4, fd5, fd6⟩ := keep2all hvv HB HXA HXB HV HRA HRB; obtain ⟨⟨vc0, vc1, vc2, vc3, vc4, vc5, vc6⟩, vf0, vf1, vf2, vf3, vf4, vf5, vf6⟩ := HV.out; clear hvv)
    | fail)
  obtain ⟨z7, zb⟩ := fin7b HV HB (.int .i64 3) (.bool false) (.bool false) (.slice none 0 0) (.int .u64 ((addB BA BB : Nat) : Int)) (.string ⟨#[]⟩) (.slice none 0 0)
  unfold put7 at z7 zb
  exact bodyPost_ret (v := .tuple #[.agg #[.int .i64 3, .bool false, .bool false, .slice none 0 0, .int .u64 ((addB BA BB : Nat) : Int), .string ⟨#[]⟩, .slice none 0 0], .int .i64 0]) (by simp [results, Tryz.results24, go_sem, z7.c0, z7.c1, z7.c2, z7.c3, z7.c4, z7.c5, z7.c6]) rfl (valt_none zb)
end Go.Proofs.YtpebnofjcodikaaGreatDoor
