/- The law PlainLaws. -/
import Derived.Test.YtpebnofjcodikaaGreatDoorPPbD
import Derived.Test.YtpebnofjcodikaaGreatDoorPPtB
import Derived.Test.YtpebnofjcodikaaGreatDoorPGPlQ
namespace Go.Proofs.YtpebnofjcodikaaGreatDoor
open Go Go.ChangeShapes Go.WideShapes Go.ChangeAt Go.RowKit
set_option linter.unusedVariables false
set_option linter.unusedSimpArgs false
theorem Rd_one (W : World) (o : Obj) : ((W.alloc (.cells #[.int .u64 1] 25)).alloc o).cell? ⟨W.heap.size, 0 + 0, none⟩ = some (.int .u64 (([1] : List Int).getD 0 0)) := ((Below.refl _ _).alloc (Nat.le_refl _) o).cell (World.block_lt_of_cell? _ _ (show (W.alloc (.cells #[.int .u64 1] 25)).cell? ⟨W.heap.size, 0 + 0, none⟩ = some (.int .u64 1) by simp)) |>.trans (by simp)
theorem keepAB {w cur new : World} {A B : Nat} {v0 v1 v2 v3 v4 v5 v6 t0 t1 t2 t3 t4 t5 t6 : Value} (h : Below cur.heap.size cur new) (h1 : Hid (Below w.heap.size w cur)) (h2 : Hid (Bx7 cur A v0 v1 v2 v3 v4 v5 v6)) (h3 : Hid (Bx7 cur B t0 t1 t2 t3 t4 t5 t6)) : Hid (Below w.heap.size w new) ∧ Hid (Bx7 new A v0 v1 v2 v3 v4 v5 v6) ∧ Hid (Bx7 new B t0 t1 t2 t3 t4 t5 t6) ∧ Bx7 new A v0 v1 v2 v3 v4 v5 v6 ∧ Bx7 new B t0 t1 t2 t3 t4 t5 t6 :=
  ⟨h1.out.trans (h.mono h1.out.size), h2.out.keep h, h3.out.keep h, h2.out.keep h, h3.out.keep h⟩
set_option maxRecDepth 100000 in
set_option maxHeartbeats 8000000 in
theorem pl_int (yA nA : Bool) (pA : Option Addr) (sA : List Int) (cA : Nat) (bA : Nat) (xA : ByteArray) (pAi : Option Addr) (mA cAi : Nat) (yB nB : Bool) (pB : Option Addr) (sB : List Int) (cB : Nat) (bB : Nat) (xB : ByteArray) (pBi : Option Addr) (mB cBi : Nat) (w : World) (zA zS KQ ZQ KR ZR XQ KP ZP XP KT ZT XT : Int) (hS : ∀ W, Below w.heap.size w W → Calls Tryz.prog 5 #[.int .i64 1, .agg #[.int .i64 2, .bool yA, .bool nA, .slice pA sA.length cA, .int .u64 (bA : Int), .string xA, .slice pAi mA cAi], .agg #[.int .i64 2, .bool yB, .bool nB, .slice pB sB.length cB, .int .u64 (bB : Int), .string xB, .slice pBi mB cBi]] W (ValT 2 zS 0 ⟨#[]⟩ 0 W)) (hD : ∀ (n1 : Bool) (p1 : Option Addr) (c1 : Nat) (s1 : List Int) (W : World), Below w.heap.size w W → Rd W (.slice p1 s1.length c1) s1 → Sgn B18 n1 s1 (zS) → s1.length ≤ 30 → Calls Tryz.prog 5 #[.int .i64 2, .agg #[.int .i64 2, .bool false, .bool n1, .slice p1 s1.length c1, .int .u64 0, .string ⟨#[]⟩, .slice none 0 0], .agg #[.int .i64 2, .bool yB, .bool nB, .slice pB sB.length cB, .int .u64 (bB : Int), .string xB, .slice pBi mB cBi]] W (ValT 2 zA 0 ⟨#[]⟩ 0 W)) (hSd : ∀ (n2 : Bool) (p2 : Option Addr) (c2 : Nat) (s2 : List Int) (W : World), Below w.heap.size w W → Rd W (.slice p2 s2.length c2) s2 → Sgn B18 n2 s2 (zA) → s2.length ≤ 30 → Calls Tryz.prog 6 #[.agg #[.int .i64 2, .bool false, .bool n2, .slice p2 s2.length c2, .int .u64 0, .string ⟨#[]⟩, .slice none 0 0], .agg #[.int .i64 2, .bool yA, .bool nA, .slice pA sA.length cA, .int .u64 (bA : Int), .string xA, .slice pAi mA cAi]] W (fun e w' => e = .returned (.bool true) ∧ Below W.heap.size W w')) (hQ : ∀ W, Below w.heap.size w W → Calls Tryz.prog 5 #[.int .i64 5, .agg #[.int .i64 2, .bool yA, .bool nA, .slice pA sA.length cA, .int .u64 (bA : Int), .string xA, .slice pAi mA cAi], .agg #[.int .i64 2, .bool yB, .bool nB, .slice pB sB.length cB, .int .u64 (bB : Int), .string xB, .slice pBi mB cBi]] W (ValT KQ ZQ 0 ⟨#[]⟩ XQ W)) (hR : ∀ W, Below w.heap.size w W → Calls Tryz.prog 5 #[.int .i64 6, .agg #[.int .i64 2, .bool yA, .bool nA, .slice pA sA.length cA, .int .u64 (bA : Int), .string xA, .slice pAi mA cAi], .agg #[.int .i64 2, .bool yB, .bool nB, .slice pB sB.length cB, .int .u64 (bB : Int), .string xB, .slice pBi mB cBi]] W (ValT KR ZR 0 ⟨#[]⟩ XQ W)) (hz : (XQ = 6 ∧ sB.length = 0) ∨ (XQ = 0 ∧ 0 < sB.length ∧ (XP = 0 → KT = 2 ∧ ZT = zA ∧ XT = 0))) (hP : XQ = 0 → ∀ (n3 : Bool) (p3 : Option Addr) (c3 : Nat) (s3 : List Int) (W : World), Below w.heap.size w W → Rd W (.slice p3 s3.length c3) s3 → Sgn B18 n3 s3 (ZQ) → s3.length ≤ 30 → Calls Tryz.prog 5 #[.int .i64 3, .agg #[.int .i64 KQ, .bool false, .bool n3, .slice p3 s3.length c3, .int .u64 0, .string ⟨#[]⟩, .slice none 0 0], .agg #[.int .i64 2, .bool yB, .bool nB, .slice pB sB.length cB, .int .u64 (bB : Int), .string xB, .slice pBi mB cBi]] W (ValT KP ZP 0 ⟨#[]⟩ XP W)) (hT : XQ = 0 → ∀ (n5 : Bool) (p5 : Option Addr) (c5 : Nat) (s5 : List Int) (n4 : Bool) (p4 : Option Addr) (c4 : Nat) (s4 : List Int) (W : World), Below w.heap.size w W → Rd W (.slice p5 s5.length c5) s5 → Sgn B18 n5 s5 (ZP) → s5.length ≤ 30 → Rd W (.slice p4 s4.length c4) s4 → Sgn B18 n4 s4 (ZR) → s4.length ≤ 30 → Calls Tryz.prog 5 #[.int .i64 1, .agg #[.int .i64 KP, .bool false, .bool n5, .slice p5 s5.length c5, .int .u64 0, .string ⟨#[]⟩, .slice none 0 0], .agg #[.int .i64 KR, .bool false, .bool n4, .slice p4 s4.length c4, .int .u64 0, .string ⟨#[]⟩, .slice none 0 0]] W (ValT KT ZT 0 ⟨#[]⟩ XT W)) :
    Calls Tryz.prog 3 #[.agg #[.int .i64 2, .bool yA, .bool nA, .slice pA sA.length cA, .int .u64 (bA : Int), .string xA, .slice pAi mA cAi], .agg #[.int .i64 2, .bool yB, .bool nB, .slice pB sB.length cB, .int .u64 (bB : Int), .string xB, .slice pBi mB cBi]] w fun e w' => e = .returned (.bool true) ∧ Below w.heap.size w w' := by
  obtain ⟨W1, hW1, HB, HXA, HXB⟩ := pre3 w (.int .i64 2) (.bool yA) (.bool nA) (.slice pA sA.length cA) (.int .u64 (bA : Int)) (.string xA) (.slice pAi mA cAi) (.int .i64 2) (.bool yB) (.bool nB) (.slice pB sB.length cB) (.int .u64 (bB : Int)) (.string xB) (.slice pBi mB cBi)
  replace hS := Lib.hid hS
  replace hD := Lib.hid hD
  replace hSd := Lib.hid hSd
  replace hQ := Lib.hid hQ
  replace hR := Lib.hid hR
  replace hz := Lib.hid hz
  replace hP := Lib.hid hP
  replace hT := Lib.hid hT
  obtain ⟨fa0, fa1, fa2, fa3, fa4, fa5, fa6⟩ := HXA.out
  obtain ⟨fd0, fd1, fd2, fd3, fd4, fd5, fd6⟩ := HXB.out
  go_enter Tryz.func3, Tryz.ntmps3
  go_wp2_with fail
  (try rw [hW1])
  clear hW1
  refine (known15 _).mono ?_
  rintro e v1 ⟨rfl, hvv⟩
  obtain ⟨HB, HXA, HXB, ⟨fa0, fa1, fa2, fa3, fa4, fa5, fa6⟩, fd0, fd1, fd2, fd3, fd4, fd5, fd6⟩ := keepAB hvv HB HXA HXB
  clear hvv
  go_wp2_with fail
  refine (hS.out _ HB.out).mono ?_
  rintro e v2 ⟨n1, p1, c1, s1, rfl, hm1, hl1, hs1, hvv⟩
  obtain ⟨HB, HXA, HXB, ⟨fa0, fa1, fa2, fa3, fa4, fa5, fa6⟩, fd0, fd1, fd2, fd3, fd4, fd5, fd6⟩ := keepAB hvv HB HXA HXB
  have HR1 := Lib.hid (hm1.rd (by omega))
  have HS1 := Lib.hid hs1
  have HL1 := Lib.hid hl1
  clear hm1 hs1 hl1
  clear hvv
  go_upto_region 4 with fail
  obtain ⟨V2, hV2⟩ : ∃ x, v2.alloc (.cells #[.int .i64 2, .bool false, .bool n1, .slice p1 s1.length c1, .int .u64 0, .string ⟨#[]⟩, .slice none 0 0] 28) = x := ⟨_, rfl⟩
  have hvv : Below v2.heap.size v2 V2 := by rw [← hV2]; exact (Below.refl _ _).alloc (Nat.le_refl _) _
  have HX1 := Lib.hid (show Bx7 V2 v2.heap.size (.int .i64 2) (.bool false) (.bool n1) (.slice p1 s1.length c1) (.int .u64 0) (.string ⟨#[]⟩) (.slice none 0 0) by rw [← hV2]; exact Bx7.new _ _ _ _ _ _ _ _ _ rfl)
  obtain ⟨HB, HXA, HXB, ⟨fa0, fa1, fa2, fa3, fa4, fa5, fa6⟩, fd0, fd1, fd2, fd3, fd4, fd5, fd6⟩ := keepAB hvv HB HXA HXB
  replace HR1 := Lib.hid (HR1.out.keep hvv)
  (try rw [hV2])
  clear hvv hV2
  obtain ⟨f10, f11, f12, f13, f14, f15, f16⟩ := HX1.out
  go_wp2_with fail
  refine (hD.out _ _ _ _ _ HB.out HR1.out HS1.out HL1.out).mono ?_
  rintro e v3 ⟨n2, p2, c2, s2, rfl, hm2, hl2, hs2, hvv⟩
  obtain ⟨HB, HXA, HXB, ⟨fa0, fa1, fa2, fa3, fa4, fa5, fa6⟩, fd0, fd1, fd2, fd3, fd4, fd5, fd6⟩ := keepAB hvv HB HXA HXB
  replace HX1 := Lib.hid (HX1.out.keep hvv)
  obtain ⟨f10, f11, f12, f13, f14, f15, f16⟩ := HX1.out
  replace HR1 := Lib.hid (HR1.out.keep hvv)
  have HR2 := Lib.hid (hm2.rd (by omega))
  have HS2 := Lib.hid hs2
  have HL2 := Lib.hid hl2
  clear hm2 hs2 hl2
  clear hvv
  clear HX1
  clear HR1 HS1
  go_upto_region 6 with fail
  obtain ⟨V3, hV3⟩ : ∃ x, v3.alloc (.cells #[.int .i64 2, .bool false, .bool n2, .slice p2 s2.length c2, .int .u64 0, .string ⟨#[]⟩, .slice none 0 0] 28) = x := ⟨_, rfl⟩
  have hvv : Below v3.heap.size v3 V3 := by rw [← hV3]; exact (Below.refl _ _).alloc (Nat.le_refl _) _
  have HX2 := Lib.hid (show Bx7 V3 v3.heap.size (.int .i64 2) (.bool false) (.bool n2) (.slice p2 s2.length c2) (.int .u64 0) (.string ⟨#[]⟩) (.slice none 0 0) by rw [← hV3]; exact Bx7.new _ _ _ _ _ _ _ _ _ rfl)
  obtain ⟨HB, HXA, HXB, ⟨fa0, fa1, fa2, fa3, fa4, fa5, fa6⟩, fd0, fd1, fd2, fd3, fd4, fd5, fd6⟩ := keepAB hvv HB HXA HXB
  replace HR2 := Lib.hid (HR2.out.keep hvv)
  (try rw [hV3])
  clear hvv hV3
  obtain ⟨f20, f21, f22, f23, f24, f25, f26⟩ := HX2.out
  go_wp2_with fail
  refine (hSd.out _ _ _ _ _ HB.out HR2.out HS2.out HL2.out).mono ?_
  rintro e v4 ⟨rfl, hvv⟩
  obtain ⟨HB, HXA, HXB, ⟨fa0, fa1, fa2, fa3, fa4, fa5, fa6⟩, fd0, fd1, fd2, fd3, fd4, fd5, fd6⟩ := keepAB hvv HB HXA HXB
  replace HX2 := Lib.hid (HX2.out.keep hvv)
  obtain ⟨f20, f21, f22, f23, f24, f25, f26⟩ := HX2.out
  replace HR2 := Lib.hid (HR2.out.keep hvv)
  clear hvv
  clear HX2
  clear HR2 HS2
  go_wp2_with fail
  refine (hQ.out _ HB.out).mono ?_
  rintro e v5 ⟨n3, p3, c3, s3, rfl, hm3, hl3, hs3, hvv⟩
  obtain ⟨HB, HXA, HXB, ⟨fa0, fa1, fa2, fa3, fa4, fa5, fa6⟩, fd0, fd1, fd2, fd3, fd4, fd5, fd6⟩ := keepAB hvv HB HXA HXB
  have HR3 := Lib.hid (hm3.rd (by omega))
  have HS3 := Lib.hid hs3
  have HL3 := Lib.hid hl3
  clear hm3 hs3 hl3
  clear hvv
  go_upto_region 9 with fail
  obtain ⟨V5, hV5⟩ : ∃ x, v5.alloc (.cells #[.int .i64 KQ, .bool false, .bool n3, .slice p3 s3.length c3, .int .u64 0, .string ⟨#[]⟩, .slice none 0 0] 28) = x := ⟨_, rfl⟩
  have hvv : Below v5.heap.size v5 V5 := by rw [← hV5]; exact (Below.refl _ _).alloc (Nat.le_refl _) _
  have HX3 := Lib.hid (show Bx7 V5 v5.heap.size (.int .i64 KQ) (.bool false) (.bool n3) (.slice p3 s3.length c3) (.int .u64 0) (.string ⟨#[]⟩) (.slice none 0 0) by rw [← hV5]; exact Bx7.new _ _ _ _ _ _ _ _ _ rfl)
  obtain ⟨HB, HXA, HXB, ⟨fa0, fa1, fa2, fa3, fa4, fa5, fa6⟩, fd0, fd1, fd2, fd3, fd4, fd5, fd6⟩ := keepAB hvv HB HXA HXB
  replace HR3 := Lib.hid (HR3.out.keep hvv)
  (try rw [hV5])
  clear hvv hV5
  obtain ⟨f30, f31, f32, f33, f34, f35, f36⟩ := HX3.out
  go_wp2_with fail
  refine (hR.out _ HB.out).mono ?_
  rintro e v6 ⟨n4, p4, c4, s4, rfl, hm4, hl4, hs4, hvv⟩
  obtain ⟨HB, HXA, HXB, ⟨fa0, fa1, fa2, fa3, fa4, fa5, fa6⟩, fd0, fd1, fd2, fd3, fd4, fd5, fd6⟩ := keepAB hvv HB HXA HXB
  replace HX3 := Lib.hid (HX3.out.keep hvv)
  obtain ⟨f30, f31, f32, f33, f34, f35, f36⟩ := HX3.out
  replace HR3 := Lib.hid (HR3.out.keep hvv)
  have HR4 := Lib.hid (hm4.rd (by omega))
  have HS4 := Lib.hid hs4
  have HL4 := Lib.hid hl4
  clear hm4 hs4 hl4
  clear hvv
  go_upto_region 10 with fail
  obtain ⟨V6, hV6⟩ : ∃ x, v6.alloc (.cells #[.int .i64 KR, .bool false, .bool n4, .slice p4 s4.length c4, .int .u64 0, .string ⟨#[]⟩, .slice none 0 0] 28) = x := ⟨_, rfl⟩
  have hvv : Below v6.heap.size v6 V6 := by rw [← hV6]; exact (Below.refl _ _).alloc (Nat.le_refl _) _
  have HX4 := Lib.hid (show Bx7 V6 v6.heap.size (.int .i64 KR) (.bool false) (.bool n4) (.slice p4 s4.length c4) (.int .u64 0) (.string ⟨#[]⟩) (.slice none 0 0) by rw [← hV6]; exact Bx7.new _ _ _ _ _ _ _ _ _ rfl)
  obtain ⟨HB, HXA, HXB, ⟨fa0, fa1, fa2, fa3, fa4, fa5, fa6⟩, fd0, fd1, fd2, fd3, fd4, fd5, fd6⟩ := keepAB hvv HB HXA HXB
  replace HX3 := Lib.hid (HX3.out.keep hvv)
  obtain ⟨f30, f31, f32, f33, f34, f35, f36⟩ := HX3.out
  replace HR3 := Lib.hid (HR3.out.keep hvv)
  replace HR4 := Lib.hid (HR4.out.keep hvv)
  (try rw [hV6])
  clear hvv hV6
  obtain ⟨f40, f41, f42, f43, f44, f45, f46⟩ := HX4.out
  rcases hz.out with ⟨rfl, hl⟩ | ⟨rfl, hl, ht⟩
  · have q0 : ((sB.length : Int) == 0) = true := by simpa using hl
    clear hl
    go_wp2_with fail
    go_ret
    exact ⟨by rfl, HB.out⟩
  have q0 : ((sB.length : Int) == 0) = false := by rw [beq_eq_false_iff_ne]; omega
  clear hl
  go_wp2_with fail
  refine (hP.out (by first | rfl | trivial) _ _ _ _ _ HB.out HR3.out HS3.out HL3.out).mono ?_
  rintro e v7 ⟨n5, p5, c5, s5, rfl, hm5, hl5, hs5, hvv⟩
  obtain ⟨HB, HXA, HXB, ⟨fa0, fa1, fa2, fa3, fa4, fa5, fa6⟩, fd0, fd1, fd2, fd3, fd4, fd5, fd6⟩ := keepAB hvv HB HXA HXB
  replace HX3 := Lib.hid (HX3.out.keep hvv)
  obtain ⟨f30, f31, f32, f33, f34, f35, f36⟩ := HX3.out
  replace HX4 := Lib.hid (HX4.out.keep hvv)
  obtain ⟨f40, f41, f42, f43, f44, f45, f46⟩ := HX4.out
  replace HR3 := Lib.hid (HR3.out.keep hvv)
  replace HR4 := Lib.hid (HR4.out.keep hvv)
  have HR5 := Lib.hid (hm5.rd (by omega))
  have HS5 := Lib.hid hs5
  have HL5 := Lib.hid hl5
  clear hm5 hs5 hl5
  clear hvv
  clear HX3
  clear HR3 HS3
  go_upto_region 14 with fail
  obtain ⟨V7, hV7⟩ : ∃ x, v7.alloc (.cells #[.int .i64 KP, .bool false, .bool n5, .slice p5 s5.length c5, .int .u64 0, .string ⟨#[]⟩, .slice none 0 0] 28) = x := ⟨_, rfl⟩
  have hvv : Below v7.heap.size v7 V7 := by rw [← hV7]; exact (Below.refl _ _).alloc (Nat.le_refl _) _
  have HX5 := Lib.hid (show Bx7 V7 v7.heap.size (.int .i64 KP) (.bool false) (.bool n5) (.slice p5 s5.length c5) (.int .u64 0) (.string ⟨#[]⟩) (.slice none 0 0) by rw [← hV7]; exact Bx7.new _ _ _ _ _ _ _ _ _ rfl)
  obtain ⟨HB, HXA, HXB, ⟨fa0, fa1, fa2, fa3, fa4, fa5, fa6⟩, fd0, fd1, fd2, fd3, fd4, fd5, fd6⟩ := keepAB hvv HB HXA HXB
  replace HX4 := Lib.hid (HX4.out.keep hvv)
  obtain ⟨f40, f41, f42, f43, f44, f45, f46⟩ := HX4.out
  replace HR4 := Lib.hid (HR4.out.keep hvv)
  replace HR5 := Lib.hid (HR5.out.keep hvv)
  (try rw [hV7])
  clear hvv hV7
  obtain ⟨f50, f51, f52, f53, f54, f55, f56⟩ := HX5.out
  go_wp2_with fail
  refine (hT.out (by first | rfl | trivial) _ _ _ _ _ _ _ _ _ HB.out HR5.out HS5.out HL5.out HR4.out HS4.out HL4.out).mono ?_
  rintro e v8 ⟨n6, p6, c6, s6, rfl, hm6, hl6, hs6, hvv⟩
  obtain ⟨HB, HXA, HXB, ⟨fa0, fa1, fa2, fa3, fa4, fa5, fa6⟩, fd0, fd1, fd2, fd3, fd4, fd5, fd6⟩ := keepAB hvv HB HXA HXB
  replace HX4 := Lib.hid (HX4.out.keep hvv)
  obtain ⟨f40, f41, f42, f43, f44, f45, f46⟩ := HX4.out
  replace HX5 := Lib.hid (HX5.out.keep hvv)
  obtain ⟨f50, f51, f52, f53, f54, f55, f56⟩ := HX5.out
  replace HR4 := Lib.hid (HR4.out.keep hvv)
  replace HR5 := Lib.hid (HR5.out.keep hvv)
  have HR6 := Lib.hid (hm6.rd (by omega))
  have HS6 := Lib.hid hs6
  have HL6 := Lib.hid hl6
  clear hm6 hs6 hl6
  clear hvv
  clear HX4
  clear HR4 HS4
  clear HX5
  clear HR5 HS5
  go_upto_region 15 with fail
  obtain ⟨V8, hV8⟩ : ∃ x, v8.alloc (.cells #[.int .i64 KT, .bool false, .bool n6, .slice p6 s6.length c6, .int .u64 0, .string ⟨#[]⟩, .slice none 0 0] 28) = x := ⟨_, rfl⟩
  have hvv : Below v8.heap.size v8 V8 := by rw [← hV8]; exact (Below.refl _ _).alloc (Nat.le_refl _) _
  have HX6 := Lib.hid (show Bx7 V8 v8.heap.size (.int .i64 KT) (.bool false) (.bool n6) (.slice p6 s6.length c6) (.int .u64 0) (.string ⟨#[]⟩) (.slice none 0 0) by rw [← hV8]; exact Bx7.new _ _ _ _ _ _ _ _ _ rfl)
  obtain ⟨HB, HXA, HXB, ⟨fa0, fa1, fa2, fa3, fa4, fa5, fa6⟩, fd0, fd1, fd2, fd3, fd4, fd5, fd6⟩ := keepAB hvv HB HXA HXB
  replace HR6 := Lib.hid (HR6.out.keep hvv)
  (try rw [hV8])
  clear hvv hV8
  obtain ⟨f60, f61, f62, f63, f64, f65, f66⟩ := HX6.out
  by_cases hp : XP = 0
  · obtain ⟨rfl, rfl, rfl⟩ := ht hp
    have q1 : (XP == 0) = true := by simpa using hp
    subst hp
    clear ht
    go_wp2_with fail
    refine (hSd.out _ _ _ _ _ HB.out HR6.out HS6.out HL6.out).mono ?_
    rintro e v9 ⟨rfl, hvv⟩
    replace HB := Lib.hid (HB.out.trans (hvv.mono HB.out.size))
    replace HXA := Lib.hid (HXA.out.keep hvv)
    obtain ⟨fa0, fa1, fa2, fa3, fa4, fa5, fa6⟩ := HXA.out
    clear hvv
    go_wp2_with fail
    go_ret
    exact ⟨by rfl, HB.out⟩
  · have q1 : (XP == 0) = false := by simpa using hp
    clear ht hp
    go_wp2_with fail
    go_ret
    exact ⟨by rfl, HB.out⟩
set_option maxRecDepth 100000 in
set_option maxHeartbeats 8000000 in
theorem pl_int_err (yA nA : Bool) (pA : Option Addr) (sA : List Int) (cA : Nat) (bA : Nat) (xA : ByteArray) (pAi : Option Addr) (mA cAi : Nat) (yB nB : Bool) (pB : Option Addr) (sB : List Int) (cB : Nat) (bB : Nat) (xB : ByteArray) (pBi : Option Addr) (mB cBi : Nat) (w : World) (K Z : Int) (BB : Nat) (SS : ByteArray) (X : Int) (hX : X ≠ 0) (hS : ∀ W, Below w.heap.size w W → Calls Tryz.prog 5 #[.int .i64 1, .agg #[.int .i64 2, .bool yA, .bool nA, .slice pA sA.length cA, .int .u64 (bA : Int), .string xA, .slice pAi mA cAi], .agg #[.int .i64 2, .bool yB, .bool nB, .slice pB sB.length cB, .int .u64 (bB : Int), .string xB, .slice pBi mB cBi]] W (ValT K Z BB SS X W)) :
    Calls Tryz.prog 3 #[.agg #[.int .i64 2, .bool yA, .bool nA, .slice pA sA.length cA, .int .u64 (bA : Int), .string xA, .slice pAi mA cAi], .agg #[.int .i64 2, .bool yB, .bool nB, .slice pB sB.length cB, .int .u64 (bB : Int), .string xB, .slice pBi mB cBi]] w fun e w' => e = .returned (.bool true) ∧ Below w.heap.size w w' := by
  obtain ⟨W1, hW1, HB, HXA, HXB⟩ := pre3 w (.int .i64 2) (.bool yA) (.bool nA) (.slice pA sA.length cA) (.int .u64 (bA : Int)) (.string xA) (.slice pAi mA cAi) (.int .i64 2) (.bool yB) (.bool nB) (.slice pB sB.length cB) (.int .u64 (bB : Int)) (.string xB) (.slice pBi mB cBi)
  replace hS := Lib.hid hS
  have q0 : (X == 0) = false := by simpa using hX
  clear hX
  obtain ⟨fa0, fa1, fa2, fa3, fa4, fa5, fa6⟩ := HXA.out
  obtain ⟨fd0, fd1, fd2, fd3, fd4, fd5, fd6⟩ := HXB.out
  go_enter Tryz.func3, Tryz.ntmps3
  go_wp2_with fail
  (try rw [hW1])
  clear hW1
  refine (known15 _).mono ?_
  rintro e v1 ⟨rfl, hvv⟩
  obtain ⟨HB, HXA, HXB, ⟨fa0, fa1, fa2, fa3, fa4, fa5, fa6⟩, fd0, fd1, fd2, fd3, fd4, fd5, fd6⟩ := keepAB hvv HB HXA HXB
  clear hvv
  go_wp2_with fail
  refine (hS.out _ HB.out).mono ?_
  rintro e v2 ⟨n1, p1, c1, s1, rfl, hm1, hl1, hs1, hvv⟩
  obtain ⟨HB, HXA, HXB, ⟨fa0, fa1, fa2, fa3, fa4, fa5, fa6⟩, fd0, fd1, fd2, fd3, fd4, fd5, fd6⟩ := keepAB hvv HB HXA HXB
  have HR1 := Lib.hid (hm1.rd (by omega))
  have HS1 := Lib.hid hs1
  have HL1 := Lib.hid hl1
  clear hm1 hs1 hl1
  clear hvv
  go_upto_region 4 with fail
  obtain ⟨V2, hV2⟩ : ∃ x, v2.alloc (.cells #[.int .i64 K, .bool false, .bool n1, .slice p1 s1.length c1, .int .u64 (BB : Int), .string SS, .slice none 0 0] 28) = x := ⟨_, rfl⟩
  have hvv : Below v2.heap.size v2 V2 := by rw [← hV2]; exact (Below.refl _ _).alloc (Nat.le_refl _) _
  have HX1 := Lib.hid (show Bx7 V2 v2.heap.size (.int .i64 K) (.bool false) (.bool n1) (.slice p1 s1.length c1) (.int .u64 (BB : Int)) (.string SS) (.slice none 0 0) by rw [← hV2]; exact Bx7.new _ _ _ _ _ _ _ _ _ rfl)
  obtain ⟨HB, HXA, HXB, ⟨fa0, fa1, fa2, fa3, fa4, fa5, fa6⟩, fd0, fd1, fd2, fd3, fd4, fd5, fd6⟩ := keepAB hvv HB HXA HXB
  replace HR1 := Lib.hid (HR1.out.keep hvv)
  (try rw [hV2])
  clear hvv hV2
  obtain ⟨f10, f11, f12, f13, f14, f15, f16⟩ := HX1.out
  go_wp2_with fail
  go_ret
  exact ⟨by rfl, HB.out⟩
set_option maxRecDepth 100000 in
set_option maxHeartbeats 8000000 in
theorem pl_2 (yA nA : Bool) (pA : Option Addr) (sA : List Int) (cA : Nat) (bA : Nat) (xA : ByteArray) (pAi : Option Addr) (mA cAi : Nat) (kB : Int) (yB nB : Bool) (pB : Option Addr) (sB : List Int) (cB : Nat) (bB : Nat) (xB : ByteArray) (pBi : Option Addr) (mB cBi : Nat) (w : World) (K Z : Int) (BB : Nat) (SS : ByteArray) (X : Int) (h2 : kB ≠ 2) (hS : ∀ W, Below w.heap.size w W → Calls Tryz.prog 5 #[.int .i64 1, .agg #[.int .i64 2, .bool yA, .bool nA, .slice pA sA.length cA, .int .u64 (bA : Int), .string xA, .slice pAi mA cAi], .agg #[.int .i64 kB, .bool yB, .bool nB, .slice pB sB.length cB, .int .u64 (bB : Int), .string xB, .slice pBi mB cBi]] W (ValT K Z BB SS X W)) :
    Calls Tryz.prog 3 #[.agg #[.int .i64 2, .bool yA, .bool nA, .slice pA sA.length cA, .int .u64 (bA : Int), .string xA, .slice pAi mA cAi], .agg #[.int .i64 kB, .bool yB, .bool nB, .slice pB sB.length cB, .int .u64 (bB : Int), .string xB, .slice pBi mB cBi]] w fun e w' => e = .returned (.bool true) ∧ Below w.heap.size w w' := by
  obtain ⟨W1, hW1, HB, HXA, HXB⟩ := pre3 w (.int .i64 2) (.bool yA) (.bool nA) (.slice pA sA.length cA) (.int .u64 (bA : Int)) (.string xA) (.slice pAi mA cAi) (.int .i64 kB) (.bool yB) (.bool nB) (.slice pB sB.length cB) (.int .u64 (bB : Int)) (.string xB) (.slice pBi mB cBi)
  replace hS := Lib.hid hS
  have q0 : (kB == 2) = false := by simpa using h2
  clear h2
  obtain ⟨fa0, fa1, fa2, fa3, fa4, fa5, fa6⟩ := HXA.out
  obtain ⟨fd0, fd1, fd2, fd3, fd4, fd5, fd6⟩ := HXB.out
  go_enter Tryz.func3, Tryz.ntmps3
  go_wp2_with fail
  (try rw [hW1])
  clear hW1
  refine (known15 _).mono ?_
  rintro e v1 ⟨rfl, hvv⟩
  obtain ⟨HB, HXA, HXB, ⟨fa0, fa1, fa2, fa3, fa4, fa5, fa6⟩, fd0, fd1, fd2, fd3, fd4, fd5, fd6⟩ := keepAB hvv HB HXA HXB
  clear hvv
  go_wp2_with fail
  refine (hS.out _ HB.out).mono ?_
  rintro e v2 ⟨n1, p1, c1, s1, rfl, hm1, hl1, hs1, hvv⟩
  obtain ⟨HB, HXA, HXB, ⟨fa0, fa1, fa2, fa3, fa4, fa5, fa6⟩, fd0, fd1, fd2, fd3, fd4, fd5, fd6⟩ := keepAB hvv HB HXA HXB
  have HR1 := Lib.hid (hm1.rd (by omega))
  have HS1 := Lib.hid hs1
  have HL1 := Lib.hid hl1
  clear hm1 hs1 hl1
  clear hvv
  go_upto_region 4 with fail
  obtain ⟨V2, hV2⟩ : ∃ x, v2.alloc (.cells #[.int .i64 K, .bool false, .bool n1, .slice p1 s1.length c1, .int .u64 (BB : Int), .string SS, .slice none 0 0] 28) = x := ⟨_, rfl⟩
  have hvv : Below v2.heap.size v2 V2 := by rw [← hV2]; exact (Below.refl _ _).alloc (Nat.le_refl _) _
  have HX1 := Lib.hid (show Bx7 V2 v2.heap.size (.int .i64 K) (.bool false) (.bool n1) (.slice p1 s1.length c1) (.int .u64 (BB : Int)) (.string SS) (.slice none 0 0) by rw [← hV2]; exact Bx7.new _ _ _ _ _ _ _ _ _ rfl)
  obtain ⟨HB, HXA, HXB, ⟨fa0, fa1, fa2, fa3, fa4, fa5, fa6⟩, fd0, fd1, fd2, fd3, fd4, fd5, fd6⟩ := keepAB hvv HB HXA HXB
  replace HR1 := Lib.hid (HR1.out.keep hvv)
  (try rw [hV2])
  clear hvv hV2
  obtain ⟨f10, f11, f12, f13, f14, f15, f16⟩ := HX1.out
  go_wp2_with fail
  go_ret
  exact ⟨by rfl, HB.out⟩
set_option maxRecDepth 100000 in
set_option maxHeartbeats 8000000 in
theorem pl_4 (yA nA : Bool) (pA : Option Addr) (sA : List Int) (cA : Nat) (bA : Nat) (xA : ByteArray) (pAi : Option Addr) (mA cAi : Nat) (kB : Int) (yB nB : Bool) (pB : Option Addr) (sB : List Int) (cB : Nat) (bB : Nat) (xB : ByteArray) (pBi : Option Addr) (mB cBi : Nat) (w : World) (K Z : Int) (BB : Nat) (SS : ByteArray) (X : Int) (h2 : kB ≠ 2) (hS : ∀ W, Below w.heap.size w W → Calls Tryz.prog 5 #[.int .i64 1, .agg #[.int .i64 4, .bool yA, .bool nA, .slice pA sA.length cA, .int .u64 (bA : Int), .string xA, .slice pAi mA cAi], .agg #[.int .i64 kB, .bool yB, .bool nB, .slice pB sB.length cB, .int .u64 (bB : Int), .string xB, .slice pBi mB cBi]] W (ValT K Z BB SS X W)) :
    Calls Tryz.prog 3 #[.agg #[.int .i64 4, .bool yA, .bool nA, .slice pA sA.length cA, .int .u64 (bA : Int), .string xA, .slice pAi mA cAi], .agg #[.int .i64 kB, .bool yB, .bool nB, .slice pB sB.length cB, .int .u64 (bB : Int), .string xB, .slice pBi mB cBi]] w fun e w' => e = .returned (.bool true) ∧ Below w.heap.size w w' := by
  obtain ⟨W1, hW1, HB, HXA, HXB⟩ := pre3 w (.int .i64 4) (.bool yA) (.bool nA) (.slice pA sA.length cA) (.int .u64 (bA : Int)) (.string xA) (.slice pAi mA cAi) (.int .i64 kB) (.bool yB) (.bool nB) (.slice pB sB.length cB) (.int .u64 (bB : Int)) (.string xB) (.slice pBi mB cBi)
  replace hS := Lib.hid hS
  have q0 : (kB == 2) = false := by simpa using h2
  have q1 : (kB != 2) = true := by simpa using h2
  clear h2
  obtain ⟨fa0, fa1, fa2, fa3, fa4, fa5, fa6⟩ := HXA.out
  obtain ⟨fd0, fd1, fd2, fd3, fd4, fd5, fd6⟩ := HXB.out
  go_enter Tryz.func3, Tryz.ntmps3
  go_wp2_with fail
  (try rw [hW1])
  clear hW1
  refine (known15 _).mono ?_
  rintro e v1 ⟨rfl, hvv⟩
  obtain ⟨HB, HXA, HXB, ⟨fa0, fa1, fa2, fa3, fa4, fa5, fa6⟩, fd0, fd1, fd2, fd3, fd4, fd5, fd6⟩ := keepAB hvv HB HXA HXB
  clear hvv
  go_wp2_with fail
  refine (hS.out _ HB.out).mono ?_
  rintro e v2 ⟨n1, p1, c1, s1, rfl, hm1, hl1, hs1, hvv⟩
  obtain ⟨HB, HXA, HXB, ⟨fa0, fa1, fa2, fa3, fa4, fa5, fa6⟩, fd0, fd1, fd2, fd3, fd4, fd5, fd6⟩ := keepAB hvv HB HXA HXB
  have HR1 := Lib.hid (hm1.rd (by omega))
  have HS1 := Lib.hid hs1
  have HL1 := Lib.hid hl1
  clear hm1 hs1 hl1
  clear hvv
  go_upto_region 4 with fail
  obtain ⟨V2, hV2⟩ : ∃ x, v2.alloc (.cells #[.int .i64 K, .bool false, .bool n1, .slice p1 s1.length c1, .int .u64 (BB : Int), .string SS, .slice none 0 0] 28) = x := ⟨_, rfl⟩
  have hvv : Below v2.heap.size v2 V2 := by rw [← hV2]; exact (Below.refl _ _).alloc (Nat.le_refl _) _
  have HX1 := Lib.hid (show Bx7 V2 v2.heap.size (.int .i64 K) (.bool false) (.bool n1) (.slice p1 s1.length c1) (.int .u64 (BB : Int)) (.string SS) (.slice none 0 0) by rw [← hV2]; exact Bx7.new _ _ _ _ _ _ _ _ _ rfl)
  obtain ⟨HB, HXA, HXB, ⟨fa0, fa1, fa2, fa3, fa4, fa5, fa6⟩, fd0, fd1, fd2, fd3, fd4, fd5, fd6⟩ := keepAB hvv HB HXA HXB
  replace HR1 := Lib.hid (HR1.out.keep hvv)
  (try rw [hV2])
  clear hvv hV2
  obtain ⟨f10, f11, f12, f13, f14, f15, f16⟩ := HX1.out
  go_wp2_with fail
  go_ret
  exact ⟨by rfl, HB.out⟩
set_option maxRecDepth 100000 in
set_option maxHeartbeats 8000000 in
theorem pl_k (kA : Int) (yA nA : Bool) (pA : Option Addr) (sA : List Int) (cA : Nat) (bA : Nat) (xA : ByteArray) (pAi : Option Addr) (mA cAi : Nat) (kB : Int) (yB nB : Bool) (pB : Option Addr) (sB : List Int) (cB : Nat) (bB : Nat) (xB : ByteArray) (pBi : Option Addr) (mB cBi : Nat) (w : World) (K Z : Int) (BB : Nat) (SS : ByteArray) (X : Int) (h1 : kA ≠ 1) (h2 : kA ≠ 2) (h4 : kA ≠ 4) (hS : ∀ W, Below w.heap.size w W → Calls Tryz.prog 5 #[.int .i64 1, .agg #[.int .i64 kA, .bool yA, .bool nA, .slice pA sA.length cA, .int .u64 (bA : Int), .string xA, .slice pAi mA cAi], .agg #[.int .i64 kB, .bool yB, .bool nB, .slice pB sB.length cB, .int .u64 (bB : Int), .string xB, .slice pBi mB cBi]] W (ValT K Z BB SS X W)) :
    Calls Tryz.prog 3 #[.agg #[.int .i64 kA, .bool yA, .bool nA, .slice pA sA.length cA, .int .u64 (bA : Int), .string xA, .slice pAi mA cAi], .agg #[.int .i64 kB, .bool yB, .bool nB, .slice pB sB.length cB, .int .u64 (bB : Int), .string xB, .slice pBi mB cBi]] w fun e w' => e = .returned (.bool true) ∧ Below w.heap.size w w' := by
  obtain ⟨W1, hW1, HB, HXA, HXB⟩ := pre3 w (.int .i64 kA) (.bool yA) (.bool nA) (.slice pA sA.length cA) (.int .u64 (bA : Int)) (.string xA) (.slice pAi mA cAi) (.int .i64 kB) (.bool yB) (.bool nB) (.slice pB sB.length cB) (.int .u64 (bB : Int)) (.string xB) (.slice pBi mB cBi)
  replace hS := Lib.hid hS
  have q1 : (kA == 1) = false := by simpa using h1
  have q2 : (kA == 2) = false := by simpa using h2
  have q4 : (kA != 4) = true := by simpa using h4
  clear h1 h2 h4
  obtain ⟨fa0, fa1, fa2, fa3, fa4, fa5, fa6⟩ := HXA.out
  obtain ⟨fd0, fd1, fd2, fd3, fd4, fd5, fd6⟩ := HXB.out
  go_enter Tryz.func3, Tryz.ntmps3
  go_wp2_with fail
  (try rw [hW1])
  clear hW1
  refine (known15 _).mono ?_
  rintro e v1 ⟨rfl, hvv⟩
  obtain ⟨HB, HXA, HXB, ⟨fa0, fa1, fa2, fa3, fa4, fa5, fa6⟩, fd0, fd1, fd2, fd3, fd4, fd5, fd6⟩ := keepAB hvv HB HXA HXB
  clear hvv
  go_wp2_with fail
  refine (hS.out _ HB.out).mono ?_
  rintro e v2 ⟨n1, p1, c1, s1, rfl, hm1, hl1, hs1, hvv⟩
  obtain ⟨HB, HXA, HXB, ⟨fa0, fa1, fa2, fa3, fa4, fa5, fa6⟩, fd0, fd1, fd2, fd3, fd4, fd5, fd6⟩ := keepAB hvv HB HXA HXB
  have HR1 := Lib.hid (hm1.rd (by omega))
  have HS1 := Lib.hid hs1
  have HL1 := Lib.hid hl1
  clear hm1 hs1 hl1
  clear hvv
  go_upto_region 4 with fail
  obtain ⟨V2, hV2⟩ : ∃ x, v2.alloc (.cells #[.int .i64 K, .bool false, .bool n1, .slice p1 s1.length c1, .int .u64 (BB : Int), .string SS, .slice none 0 0] 28) = x := ⟨_, rfl⟩
  have hvv : Below v2.heap.size v2 V2 := by rw [← hV2]; exact (Below.refl _ _).alloc (Nat.le_refl _) _
  have HX1 := Lib.hid (show Bx7 V2 v2.heap.size (.int .i64 K) (.bool false) (.bool n1) (.slice p1 s1.length c1) (.int .u64 (BB : Int)) (.string SS) (.slice none 0 0) by rw [← hV2]; exact Bx7.new _ _ _ _ _ _ _ _ _ rfl)
  obtain ⟨HB, HXA, HXB, ⟨fa0, fa1, fa2, fa3, fa4, fa5, fa6⟩, fd0, fd1, fd2, fd3, fd4, fd5, fd6⟩ := keepAB hvv HB HXA HXB
  replace HR1 := Lib.hid (HR1.out.keep hvv)
  (try rw [hV2])
  clear hvv hV2
  obtain ⟨f10, f11, f12, f13, f14, f15, f16⟩ := HX1.out
  go_wp2_with fail
  go_ret
  exact ⟨by rfl, HB.out⟩
set_option maxRecDepth 100000 in
set_option maxHeartbeats 8000000 in
theorem pl_bool (yA nA : Bool) (pA : Option Addr) (sA : List Int) (cA : Nat) (bA : Nat) (xA : ByteArray) (pAi : Option Addr) (mA cAi : Nat) (kB : Int) (yB nB : Bool) (pB : Option Addr) (sB : List Int) (cB : Nat) (bB : Nat) (xB : ByteArray) (pBi : Option Addr) (mB cBi : Nat) (w : World) (zA K Z : Int) (BB : Nat) (X : Int) (hS : ∀ W, Below w.heap.size w W → Calls Tryz.prog 5 #[.int .i64 1, .agg #[.int .i64 1, .bool yA, .bool nA, .slice pA sA.length cA, .int .u64 (bA : Int), .string xA, .slice pAi mA cAi], .agg #[.int .i64 kB, .bool yB, .bool nB, .slice pB sB.length cB, .int .u64 (bB : Int), .string xB, .slice pBi mB cBi]] W (ValT K Z BB ⟨#[]⟩ X W)) (hG : ∀ W, Below w.heap.size w W → Calls Tryz.prog 7 #[.agg #[.int .i64 1, .bool yA, .bool nA, .slice pA sA.length cA, .int .u64 (bA : Int), .string xA, .slice pAi mA cAi]] W (fun e w' => e = .returned (.bool true) ∧ Below W.heap.size W w')) (hX : ∀ W, Below w.heap.size w W → Calls Tryz.prog 8 #[.agg #[.int .i64 1, .bool yA, .bool nA, .slice pA sA.length cA, .int .u64 (bA : Int), .string xA, .slice pAi mA cAi]] W (ValP 2 zA 0 0 W)) (hT : ∀ (n2 : Bool) (p2 : Option Addr) (c2 : Nat) (s2 : List Int) (W : World), Below w.heap.size w W → Rd W (.slice p2 s2.length c2) s2 → Sgn B18 n2 s2 (zA) → Calls Tryz.prog 5 #[.int .i64 1, .agg #[.int .i64 2, .bool false, .bool n2, .slice p2 s2.length c2, .int .u64 0, .string ⟨#[]⟩, .slice none 0 0], .agg #[.int .i64 kB, .bool yB, .bool nB, .slice pB sB.length cB, .int .u64 (bB : Int), .string xB, .slice pBi mB cBi]] W (ValT K Z BB ⟨#[]⟩ X W)) :
    Calls Tryz.prog 3 #[.agg #[.int .i64 1, .bool yA, .bool nA, .slice pA sA.length cA, .int .u64 (bA : Int), .string xA, .slice pAi mA cAi], .agg #[.int .i64 kB, .bool yB, .bool nB, .slice pB sB.length cB, .int .u64 (bB : Int), .string xB, .slice pBi mB cBi]] w fun e w' => e = .returned (.bool true) ∧ Below w.heap.size w w' := by
  obtain ⟨W1, hW1, HB, HXA, HXB⟩ := pre3 w (.int .i64 1) (.bool yA) (.bool nA) (.slice pA sA.length cA) (.int .u64 (bA : Int)) (.string xA) (.slice pAi mA cAi) (.int .i64 kB) (.bool yB) (.bool nB) (.slice pB sB.length cB) (.int .u64 (bB : Int)) (.string xB) (.slice pBi mB cBi)
  replace hS := Lib.hid hS
  replace hG := Lib.hid hG
  replace hX := Lib.hid hX
  replace hT := Lib.hid hT
  have q0 : (X != X) = false := by simp
  obtain ⟨fa0, fa1, fa2, fa3, fa4, fa5, fa6⟩ := HXA.out
  obtain ⟨fd0, fd1, fd2, fd3, fd4, fd5, fd6⟩ := HXB.out
  go_enter Tryz.func3, Tryz.ntmps3
  go_wp2_with fail
  (try rw [hW1])
  clear hW1
  refine (known15 _).mono ?_
  rintro e v1 ⟨rfl, hvv⟩
  obtain ⟨HB, HXA, HXB, ⟨fa0, fa1, fa2, fa3, fa4, fa5, fa6⟩, fd0, fd1, fd2, fd3, fd4, fd5, fd6⟩ := keepAB hvv HB HXA HXB
  clear hvv
  go_wp2_with fail
  refine (hS.out _ HB.out).mono ?_
  rintro e v2 ⟨n1, p1, c1, s1, rfl, hm1, hl1, hs1, hvv⟩
  obtain ⟨HB, HXA, HXB, ⟨fa0, fa1, fa2, fa3, fa4, fa5, fa6⟩, fd0, fd1, fd2, fd3, fd4, fd5, fd6⟩ := keepAB hvv HB HXA HXB
  have HR1 := Lib.hid (hm1.rd (by omega))
  have HS1 := Lib.hid hs1
  have HL1 := Lib.hid hl1
  clear hm1 hs1 hl1
  clear hvv
  go_upto_region 4 with fail
  obtain ⟨V2, hV2⟩ : ∃ x, v2.alloc (.cells #[.int .i64 K, .bool false, .bool n1, .slice p1 s1.length c1, .int .u64 (BB : Int), .string ⟨#[]⟩, .slice none 0 0] 28) = x := ⟨_, rfl⟩
  have hvv : Below v2.heap.size v2 V2 := by rw [← hV2]; exact (Below.refl _ _).alloc (Nat.le_refl _) _
  have HX1 := Lib.hid (show Bx7 V2 v2.heap.size (.int .i64 K) (.bool false) (.bool n1) (.slice p1 s1.length c1) (.int .u64 (BB : Int)) (.string ⟨#[]⟩) (.slice none 0 0) by rw [← hV2]; exact Bx7.new _ _ _ _ _ _ _ _ _ rfl)
  obtain ⟨HB, HXA, HXB, ⟨fa0, fa1, fa2, fa3, fa4, fa5, fa6⟩, fd0, fd1, fd2, fd3, fd4, fd5, fd6⟩ := keepAB hvv HB HXA HXB
  replace HR1 := Lib.hid (HR1.out.keep hvv)
  (try rw [hV2])
  clear hvv hV2
  obtain ⟨f10, f11, f12, f13, f14, f15, f16⟩ := HX1.out
  go_wp2_with fail
  refine (hG.out _ HB.out).mono ?_
  rintro e v3 ⟨rfl, hvv⟩
  obtain ⟨HB, HXA, HXB, ⟨fa0, fa1, fa2, fa3, fa4, fa5, fa6⟩, fd0, fd1, fd2, fd3, fd4, fd5, fd6⟩ := keepAB hvv HB HXA HXB
  replace HX1 := Lib.hid (HX1.out.keep hvv)
  obtain ⟨f10, f11, f12, f13, f14, f15, f16⟩ := HX1.out
  replace HR1 := Lib.hid (HR1.out.keep hvv)
  clear hvv
  go_wp2_with fail
  refine (hX.out _ HB.out).mono ?_
  rintro e v4 ⟨n2, p2, c2, s2, rfl, hr2, hs2, hvv⟩
  obtain ⟨HB, HXA, HXB, ⟨fa0, fa1, fa2, fa3, fa4, fa5, fa6⟩, fd0, fd1, fd2, fd3, fd4, fd5, fd6⟩ := keepAB hvv HB HXA HXB
  replace HX1 := Lib.hid (HX1.out.keep hvv)
  obtain ⟨f10, f11, f12, f13, f14, f15, f16⟩ := HX1.out
  replace HR1 := Lib.hid (HR1.out.keep hvv)
  have HR2 := Lib.hid hr2
  have HS2 := Lib.hid hs2
  clear hr2 hs2
  clear hvv
  go_upto_region 19 with fail
  obtain ⟨V4, hV4⟩ : ∃ x, v4.alloc (.cells #[.int .i64 2, .bool false, .bool n2, .slice p2 s2.length c2, .int .u64 0, .string ⟨#[]⟩, .slice none 0 0] 28) = x := ⟨_, rfl⟩
  have hvv : Below v4.heap.size v4 V4 := by rw [← hV4]; exact (Below.refl _ _).alloc (Nat.le_refl _) _
  have HX2 := Lib.hid (show Bx7 V4 v4.heap.size (.int .i64 2) (.bool false) (.bool n2) (.slice p2 s2.length c2) (.int .u64 0) (.string ⟨#[]⟩) (.slice none 0 0) by rw [← hV4]; exact Bx7.new _ _ _ _ _ _ _ _ _ rfl)
  obtain ⟨HB, HXA, HXB, ⟨fa0, fa1, fa2, fa3, fa4, fa5, fa6⟩, fd0, fd1, fd2, fd3, fd4, fd5, fd6⟩ := keepAB hvv HB HXA HXB
  replace HX1 := Lib.hid (HX1.out.keep hvv)
  obtain ⟨f10, f11, f12, f13, f14, f15, f16⟩ := HX1.out
  replace HR1 := Lib.hid (HR1.out.keep hvv)
  replace HR2 := Lib.hid (HR2.out.keep hvv)
  (try rw [hV4])
  clear hvv hV4
  obtain ⟨f20, f21, f22, f23, f24, f25, f26⟩ := HX2.out
  go_wp2_with fail
  refine (hT.out _ _ _ _ _ HB.out HR2.out HS2.out).mono ?_
  rintro e v5 ⟨n3, p3, c3, s3, rfl, hm3, hl3, hs3, hvv⟩
  obtain ⟨HB, HXA, HXB, ⟨fa0, fa1, fa2, fa3, fa4, fa5, fa6⟩, fd0, fd1, fd2, fd3, fd4, fd5, fd6⟩ := keepAB hvv HB HXA HXB
  replace HX1 := Lib.hid (HX1.out.keep hvv)
  obtain ⟨f10, f11, f12, f13, f14, f15, f16⟩ := HX1.out
  replace HX2 := Lib.hid (HX2.out.keep hvv)
  obtain ⟨f20, f21, f22, f23, f24, f25, f26⟩ := HX2.out
  replace HR1 := Lib.hid (HR1.out.keep hvv)
  replace HR2 := Lib.hid (HR2.out.keep hvv)
  have HR3 := Lib.hid (hm3.rd (by omega))
  have HS3 := Lib.hid hs3
  have HL3 := Lib.hid hl3
  clear hm3 hs3 hl3
  clear hvv
  clear HX2
  clear HR2 HS2
  go_upto_region 20 with fail
  obtain ⟨V5, hV5⟩ : ∃ x, v5.alloc (.cells #[.int .i64 K, .bool false, .bool n3, .slice p3 s3.length c3, .int .u64 (BB : Int), .string ⟨#[]⟩, .slice none 0 0] 28) = x := ⟨_, rfl⟩
  have hvv : Below v5.heap.size v5 V5 := by rw [← hV5]; exact (Below.refl _ _).alloc (Nat.le_refl _) _
  have HX3 := Lib.hid (show Bx7 V5 v5.heap.size (.int .i64 K) (.bool false) (.bool n3) (.slice p3 s3.length c3) (.int .u64 (BB : Int)) (.string ⟨#[]⟩) (.slice none 0 0) by rw [← hV5]; exact Bx7.new _ _ _ _ _ _ _ _ _ rfl)
  obtain ⟨HB, HXA, HXB, ⟨fa0, fa1, fa2, fa3, fa4, fa5, fa6⟩, fd0, fd1, fd2, fd3, fd4, fd5, fd6⟩ := keepAB hvv HB HXA HXB
  replace HX1 := Lib.hid (HX1.out.keep hvv)
  obtain ⟨f10, f11, f12, f13, f14, f15, f16⟩ := HX1.out
  replace HR1 := Lib.hid (HR1.out.keep hvv)
  replace HR3 := Lib.hid (HR3.out.keep hvv)
  (try rw [hV5])
  clear hvv hV5
  obtain ⟨f30, f31, f32, f33, f34, f35, f36⟩ := HX3.out
  go_wp2_with fail
  refine (is_val K BB n1 n3 _ _ s1 s3 Z _ HR1.out HR3.out HS1.out HS3.out).mono ?_
  rintro e v6 ⟨rfl, hvv⟩
  obtain ⟨HB, HXA, HXB, ⟨fa0, fa1, fa2, fa3, fa4, fa5, fa6⟩, fd0, fd1, fd2, fd3, fd4, fd5, fd6⟩ := keepAB hvv HB HXA HXB
  replace HX1 := Lib.hid (HX1.out.keep hvv)
  obtain ⟨f10, f11, f12, f13, f14, f15, f16⟩ := HX1.out
  replace HX3 := Lib.hid (HX3.out.keep hvv)
  obtain ⟨f30, f31, f32, f33, f34, f35, f36⟩ := HX3.out
  replace HR1 := Lib.hid (HR1.out.keep hvv)
  replace HR3 := Lib.hid (HR3.out.keep hvv)
  clear hvv
  go_wp2_with fail
  go_ret
  exact ⟨by rfl, HB.out⟩
set_option maxRecDepth 100000 in
set_option maxHeartbeats 8000000 in
theorem pl_boolbad (yA nA : Bool) (pA : Option Addr) (sA : List Int) (cA : Nat) (bA : Nat) (xA : ByteArray) (pAi : Option Addr) (mA cAi : Nat) (kB : Int) (yB nB : Bool) (pB : Option Addr) (sB : List Int) (cB : Nat) (bB : Nat) (xB : ByteArray) (pBi : Option Addr) (mB cBi : Nat) (w : World) (K Z : Int) (BB : Nat) (SS : ByteArray) (X : Int) (hS : ∀ W, Below w.heap.size w W → Calls Tryz.prog 5 #[.int .i64 1, .agg #[.int .i64 1, .bool yA, .bool nA, .slice pA sA.length cA, .int .u64 (bA : Int), .string xA, .slice pAi mA cAi], .agg #[.int .i64 kB, .bool yB, .bool nB, .slice pB sB.length cB, .int .u64 (bB : Int), .string xB, .slice pBi mB cBi]] W (ValT K Z BB SS X W)) (hG : ∀ W, Below w.heap.size w W → Calls Tryz.prog 7 #[.agg #[.int .i64 1, .bool yA, .bool nA, .slice pA sA.length cA, .int .u64 (bA : Int), .string xA, .slice pAi mA cAi]] W (fun e w' => e = .returned (.bool false) ∧ Below W.heap.size W w')) :
    Calls Tryz.prog 3 #[.agg #[.int .i64 1, .bool yA, .bool nA, .slice pA sA.length cA, .int .u64 (bA : Int), .string xA, .slice pAi mA cAi], .agg #[.int .i64 kB, .bool yB, .bool nB, .slice pB sB.length cB, .int .u64 (bB : Int), .string xB, .slice pBi mB cBi]] w fun e w' => e = .returned (.bool true) ∧ Below w.heap.size w w' := by
  obtain ⟨W1, hW1, HB, HXA, HXB⟩ := pre3 w (.int .i64 1) (.bool yA) (.bool nA) (.slice pA sA.length cA) (.int .u64 (bA : Int)) (.string xA) (.slice pAi mA cAi) (.int .i64 kB) (.bool yB) (.bool nB) (.slice pB sB.length cB) (.int .u64 (bB : Int)) (.string xB) (.slice pBi mB cBi)
  replace hS := Lib.hid hS
  replace hG := Lib.hid hG
  obtain ⟨fa0, fa1, fa2, fa3, fa4, fa5, fa6⟩ := HXA.out
  obtain ⟨fd0, fd1, fd2, fd3, fd4, fd5, fd6⟩ := HXB.out
  go_enter Tryz.func3, Tryz.ntmps3
  go_wp2_with fail
  (try rw [hW1])
  clear hW1
  refine (known15 _).mono ?_
  rintro e v1 ⟨rfl, hvv⟩
  obtain ⟨HB, HXA, HXB, ⟨fa0, fa1, fa2, fa3, fa4, fa5, fa6⟩, fd0, fd1, fd2, fd3, fd4, fd5, fd6⟩ := keepAB hvv HB HXA HXB
  clear hvv
  go_wp2_with fail
  refine (hS.out _ HB.out).mono ?_
  rintro e v2 ⟨n1, p1, c1, s1, rfl, hm1, hl1, hs1, hvv⟩
  obtain ⟨HB, HXA, HXB, ⟨fa0, fa1, fa2, fa3, fa4, fa5, fa6⟩, fd0, fd1, fd2, fd3, fd4, fd5, fd6⟩ := keepAB hvv HB HXA HXB
  have HR1 := Lib.hid (hm1.rd (by omega))
  have HS1 := Lib.hid hs1
  have HL1 := Lib.hid hl1
  clear hm1 hs1 hl1
  clear hvv
  go_upto_region 4 with fail
  obtain ⟨V2, hV2⟩ : ∃ x, v2.alloc (.cells #[.int .i64 K, .bool false, .bool n1, .slice p1 s1.length c1, .int .u64 (BB : Int), .string SS, .slice none 0 0] 28) = x := ⟨_, rfl⟩
  have hvv : Below v2.heap.size v2 V2 := by rw [← hV2]; exact (Below.refl _ _).alloc (Nat.le_refl _) _
  have HX1 := Lib.hid (show Bx7 V2 v2.heap.size (.int .i64 K) (.bool false) (.bool n1) (.slice p1 s1.length c1) (.int .u64 (BB : Int)) (.string SS) (.slice none 0 0) by rw [← hV2]; exact Bx7.new _ _ _ _ _ _ _ _ _ rfl)
  obtain ⟨HB, HXA, HXB, ⟨fa0, fa1, fa2, fa3, fa4, fa5, fa6⟩, fd0, fd1, fd2, fd3, fd4, fd5, fd6⟩ := keepAB hvv HB HXA HXB
  replace HR1 := Lib.hid (HR1.out.keep hvv)
  (try rw [hV2])
  clear hvv hV2
  obtain ⟨f10, f11, f12, f13, f14, f15, f16⟩ := HX1.out
  go_wp2_with fail
  refine (hG.out _ HB.out).mono ?_
  rintro e v3 ⟨rfl, hvv⟩
  obtain ⟨HB, HXA, HXB, ⟨fa0, fa1, fa2, fa3, fa4, fa5, fa6⟩, fd0, fd1, fd2, fd3, fd4, fd5, fd6⟩ := keepAB hvv HB HXA HXB
  replace HX1 := Lib.hid (HX1.out.keep hvv)
  obtain ⟨f10, f11, f12, f13, f14, f15, f16⟩ := HX1.out
  replace HR1 := Lib.hid (HR1.out.keep hvv)
  clear hvv
  go_wp2_with fail
  go_ret
  exact ⟨by rfl, HB.out⟩
set_option maxRecDepth 100000 in
set_option maxHeartbeats 8000000 in
theorem pl_strbad (yA nA : Bool) (pA : Option Addr) (sA : List Int) (cA : Nat) (bA : Nat) (xA : ByteArray) (pAi : Option Addr) (mA cAi : Nat) (yB nB : Bool) (pB : Option Addr) (sB : List Int) (cB : Nat) (bB : Nat) (xB : ByteArray) (pBi : Option Addr) (mB cBi : Nat) (w : World) (K Z : Int) (BB : Nat) (SS : ByteArray) (X : Int) (hS : ∀ W, Below w.heap.size w W → Calls Tryz.prog 5 #[.int .i64 1, .agg #[.int .i64 4, .bool yA, .bool nA, .slice pA sA.length cA, .int .u64 (bA : Int), .string xA, .slice pAi mA cAi], .agg #[.int .i64 2, .bool yB, .bool nB, .slice pB sB.length cB, .int .u64 (bB : Int), .string xB, .slice pBi mB cBi]] W (ValT K Z BB SS X W)) (hO : ∀ W, Below w.heap.size w W → Calls Tryz.prog 10 #[.agg #[.int .i64 4, .bool yA, .bool nA, .slice pA sA.length cA, .int .u64 (bA : Int), .string xA, .slice pAi mA cAi], .agg #[.int .i64 2, .bool yB, .bool nB, .slice pB sB.length cB, .int .u64 (bB : Int), .string xB, .slice pBi mB cBi]] W (fun e w' => e = .returned (.bool false) ∧ Below W.heap.size W w')) :
    Calls Tryz.prog 3 #[.agg #[.int .i64 4, .bool yA, .bool nA, .slice pA sA.length cA, .int .u64 (bA : Int), .string xA, .slice pAi mA cAi], .agg #[.int .i64 2, .bool yB, .bool nB, .slice pB sB.length cB, .int .u64 (bB : Int), .string xB, .slice pBi mB cBi]] w fun e w' => e = .returned (.bool true) ∧ Below w.heap.size w w' := by
  obtain ⟨W1, hW1, HB, HXA, HXB⟩ := pre3 w (.int .i64 4) (.bool yA) (.bool nA) (.slice pA sA.length cA) (.int .u64 (bA : Int)) (.string xA) (.slice pAi mA cAi) (.int .i64 2) (.bool yB) (.bool nB) (.slice pB sB.length cB) (.int .u64 (bB : Int)) (.string xB) (.slice pBi mB cBi)
  replace hS := Lib.hid hS
  replace hO := Lib.hid hO
  obtain ⟨fa0, fa1, fa2, fa3, fa4, fa5, fa6⟩ := HXA.out
  obtain ⟨fd0, fd1, fd2, fd3, fd4, fd5, fd6⟩ := HXB.out
  go_enter Tryz.func3, Tryz.ntmps3
  go_wp2_with fail
  (try rw [hW1])
  clear hW1
  refine (known15 _).mono ?_
  rintro e v1 ⟨rfl, hvv⟩
  obtain ⟨HB, HXA, HXB, ⟨fa0, fa1, fa2, fa3, fa4, fa5, fa6⟩, fd0, fd1, fd2, fd3, fd4, fd5, fd6⟩ := keepAB hvv HB HXA HXB
  clear hvv
  go_wp2_with fail
  refine (hS.out _ HB.out).mono ?_
  rintro e v2 ⟨n1, p1, c1, s1, rfl, hm1, hl1, hs1, hvv⟩
  obtain ⟨HB, HXA, HXB, ⟨fa0, fa1, fa2, fa3, fa4, fa5, fa6⟩, fd0, fd1, fd2, fd3, fd4, fd5, fd6⟩ := keepAB hvv HB HXA HXB
  have HR1 := Lib.hid (hm1.rd (by omega))
  have HS1 := Lib.hid hs1
  have HL1 := Lib.hid hl1
  clear hm1 hs1 hl1
  clear hvv
  go_upto_region 4 with fail
  obtain ⟨V2, hV2⟩ : ∃ x, v2.alloc (.cells #[.int .i64 K, .bool false, .bool n1, .slice p1 s1.length c1, .int .u64 (BB : Int), .string SS, .slice none 0 0] 28) = x := ⟨_, rfl⟩
  have hvv : Below v2.heap.size v2 V2 := by rw [← hV2]; exact (Below.refl _ _).alloc (Nat.le_refl _) _
  have HX1 := Lib.hid (show Bx7 V2 v2.heap.size (.int .i64 K) (.bool false) (.bool n1) (.slice p1 s1.length c1) (.int .u64 (BB : Int)) (.string SS) (.slice none 0 0) by rw [← hV2]; exact Bx7.new _ _ _ _ _ _ _ _ _ rfl)
  obtain ⟨HB, HXA, HXB, ⟨fa0, fa1, fa2, fa3, fa4, fa5, fa6⟩, fd0, fd1, fd2, fd3, fd4, fd5, fd6⟩ := keepAB hvv HB HXA HXB
  replace HR1 := Lib.hid (HR1.out.keep hvv)
  (try rw [hV2])
  clear hvv hV2
  obtain ⟨f10, f11, f12, f13, f14, f15, f16⟩ := HX1.out
  go_wp2_with fail
  refine (hO.out _ HB.out).mono ?_
  rintro e v3 ⟨rfl, hvv⟩
  obtain ⟨HB, HXA, HXB, ⟨fa0, fa1, fa2, fa3, fa4, fa5, fa6⟩, fd0, fd1, fd2, fd3, fd4, fd5, fd6⟩ := keepAB hvv HB HXA HXB
  replace HX1 := Lib.hid (HX1.out.keep hvv)
  obtain ⟨f10, f11, f12, f13, f14, f15, f16⟩ := HX1.out
  replace HR1 := Lib.hid (HR1.out.keep hvv)
  clear hvv
  go_wp2_with fail
  go_ret
  exact ⟨by rfl, HB.out⟩
set_option maxRecDepth 100000 in
set_option maxHeartbeats 8000000 in
theorem pl_str (yA nA : Bool) (pA : Option Addr) (sA : List Int) (cA : Nat) (bA : Nat) (xA : ByteArray) (pAi : Option Addr) (mA cAi : Nat) (yB nB : Bool) (pB : Option Addr) (sB : List Int) (cB : Nat) (bB : Nat) (xB : ByteArray) (pBi : Option Addr) (mB cBi : Nat) (w : World) (K Z : Int) (BB : Nat) (SS : ByteArray) (X KN ZN XN KX XX KY XY : Int) (SX SY SZ : ByteArray) (hS : ∀ W, Below w.heap.size w W → Calls Tryz.prog 5 #[.int .i64 1, .agg #[.int .i64 4, .bool yA, .bool nA, .slice pA sA.length cA, .int .u64 (bA : Int), .string xA, .slice pAi mA cAi], .agg #[.int .i64 2, .bool yB, .bool nB, .slice pB sB.length cB, .int .u64 (bB : Int), .string xB, .slice pBi mB cBi]] W (ValT K Z BB SS X W)) (hO : ∀ W, Below w.heap.size w W → Calls Tryz.prog 10 #[.agg #[.int .i64 4, .bool yA, .bool nA, .slice pA sA.length cA, .int .u64 (bA : Int), .string xA, .slice pAi mA cAi], .agg #[.int .i64 2, .bool yB, .bool nB, .slice pB sB.length cB, .int .u64 (bB : Int), .string xB, .slice pBi mB cBi]] W (fun e w' => e = .returned (.bool true) ∧ Below W.heap.size W w')) (hN : ∀ (n2 : Bool) (p2 : Option Addr) (c2 : Nat) (s2 : List Int) (W : World), Below w.heap.size w W → Rd W (.slice p2 s2.length c2) s2 → Sgn B18 n2 s2 (1) → s2.length ≤ 30 → Calls Tryz.prog 5 #[.int .i64 1, .agg #[.int .i64 2, .bool yB, .bool nB, .slice pB sB.length cB, .int .u64 (bB : Int), .string xB, .slice pBi mB cBi], .agg #[.int .i64 2, .bool false, .bool n2, .slice p2 s2.length c2, .int .u64 0, .string ⟨#[]⟩, .slice none 0 0]] W (ValT KN ZN 0 ⟨#[]⟩ XN W)) (hX : ∀ W, Below w.heap.size w W → Calls Tryz.prog 5 #[.int .i64 3, .agg #[.int .i64 4, .bool yA, .bool nA, .slice pA sA.length cA, .int .u64 (bA : Int), .string xA, .slice pAi mA cAi], .agg #[.int .i64 2, .bool yB, .bool nB, .slice pB sB.length cB, .int .u64 (bB : Int), .string xB, .slice pBi mB cBi]] W (ValT KX 0 0 SX XX W)) (hY : ∀ (n3 : Bool) (p3 : Option Addr) (c3 : Nat) (s3 : List Int) (W : World), Below w.heap.size w W → Rd W (.slice p3 s3.length c3) s3 → Sgn B18 n3 s3 (ZN) → s3.length ≤ 30 → Calls Tryz.prog 5 #[.int .i64 3, .agg #[.int .i64 4, .bool yA, .bool nA, .slice pA sA.length cA, .int .u64 (bA : Int), .string xA, .slice pAi mA cAi], .agg #[.int .i64 KN, .bool false, .bool n3, .slice p3 s3.length c3, .int .u64 0, .string ⟨#[]⟩, .slice none 0 0]] W (ValT KY 0 0 SY XY W)) (hZ : XN = 0 → XX = 0 → XY = 0 → nB = false → ∀ (n4 : Bool) (p4 : Option Addr) (c4 : Nat) (s4 : List Int) (W : World), Below w.heap.size w W → Rd W (.slice p4 s4.length c4) s4 → Sgn B18 n4 s4 (0) → s4.length ≤ 30 → Calls Tryz.prog 5 #[.int .i64 1, .agg #[.int .i64 KX, .bool false, .bool n4, .slice p4 s4.length c4, .int .u64 0, .string SX, .slice none 0 0], .agg #[.int .i64 4, .bool yA, .bool nA, .slice pA sA.length cA, .int .u64 (bA : Int), .string xA, .slice pAi mA cAi]] W (ValT 4 0 0 SZ 0 W)) (hE : XN = 0 → XX = 0 → XY = 0 → nB = false → ∀ (n5 : Bool) (p5 : Option Addr) (c5 : Nat) (s5 : List Int) (n6 : Bool) (p6 : Option Addr) (c6 : Nat) (s6 : List Int) (W : World), Below w.heap.size w W → Rd W (.slice p5 s5.length c5) s5 → Sgn B18 n5 s5 (0) → s5.length ≤ 30 → Rd W (.slice p6 s6.length c6) s6 → Sgn B18 n6 s6 (0) → s6.length ≤ 30 → Calls Tryz.prog 6 #[.agg #[.int .i64 KY, .bool false, .bool n5, .slice p5 s5.length c5, .int .u64 0, .string SY, .slice none 0 0], .agg #[.int .i64 4, .bool false, .bool n6, .slice p6 s6.length c6, .int .u64 0, .string SZ, .slice none 0 0]] W (fun e w' => e = .returned (.bool true) ∧ Below W.heap.size W w')) :
    Calls Tryz.prog 3 #[.agg #[.int .i64 4, .bool yA, .bool nA, .slice pA sA.length cA, .int .u64 (bA : Int), .string xA, .slice pAi mA cAi], .agg #[.int .i64 2, .bool yB, .bool nB, .slice pB sB.length cB, .int .u64 (bB : Int), .string xB, .slice pBi mB cBi]] w fun e w' => e = .returned (.bool true) ∧ Below w.heap.size w w' := by
  obtain ⟨W1, hW1, HB, HXA, HXB⟩ := pre3 w (.int .i64 4) (.bool yA) (.bool nA) (.slice pA sA.length cA) (.int .u64 (bA : Int)) (.string xA) (.slice pAi mA cAi) (.int .i64 2) (.bool yB) (.bool nB) (.slice pB sB.length cB) (.int .u64 (bB : Int)) (.string xB) (.slice pBi mB cBi)
  replace hS := Lib.hid hS
  replace hO := Lib.hid hO
  replace hN := Lib.hid hN
  replace hX := Lib.hid hX
  replace hY := Lib.hid hY
  replace hZ := Lib.hid hZ
  replace hE := Lib.hid hE
  obtain ⟨fa0, fa1, fa2, fa3, fa4, fa5, fa6⟩ := HXA.out
  obtain ⟨fd0, fd1, fd2, fd3, fd4, fd5, fd6⟩ := HXB.out
  go_enter Tryz.func3, Tryz.ntmps3
  go_wp2_with fail
  (try rw [hW1])
  clear hW1
  refine (known15 _).mono ?_
  rintro e v1 ⟨rfl, hvv⟩
  obtain ⟨HB, HXA, HXB, ⟨fa0, fa1, fa2, fa3, fa4, fa5, fa6⟩, fd0, fd1, fd2, fd3, fd4, fd5, fd6⟩ := keepAB hvv HB HXA HXB
  clear hvv
  go_wp2_with fail
  refine (hS.out _ HB.out).mono ?_
  rintro e v2 ⟨n1, p1, c1, s1, rfl, hm1, hl1, hs1, hvv⟩
  obtain ⟨HB, HXA, HXB, ⟨fa0, fa1, fa2, fa3, fa4, fa5, fa6⟩, fd0, fd1, fd2, fd3, fd4, fd5, fd6⟩ := keepAB hvv HB HXA HXB
  have HR1 := Lib.hid (hm1.rd (by omega))
  have HS1 := Lib.hid hs1
  have HL1 := Lib.hid hl1
  clear hm1 hs1 hl1
  clear hvv
  go_upto_region 4 with fail
  obtain ⟨V2, hV2⟩ : ∃ x, v2.alloc (.cells #[.int .i64 K, .bool false, .bool n1, .slice p1 s1.length c1, .int .u64 (BB : Int), .string SS, .slice none 0 0] 28) = x := ⟨_, rfl⟩
  have hvv : Below v2.heap.size v2 V2 := by rw [← hV2]; exact (Below.refl _ _).alloc (Nat.le_refl _) _
  have HX1 := Lib.hid (show Bx7 V2 v2.heap.size (.int .i64 K) (.bool false) (.bool n1) (.slice p1 s1.length c1) (.int .u64 (BB : Int)) (.string SS) (.slice none 0 0) by rw [← hV2]; exact Bx7.new _ _ _ _ _ _ _ _ _ rfl)
  obtain ⟨HB, HXA, HXB, ⟨fa0, fa1, fa2, fa3, fa4, fa5, fa6⟩, fd0, fd1, fd2, fd3, fd4, fd5, fd6⟩ := keepAB hvv HB HXA HXB
  replace HR1 := Lib.hid (HR1.out.keep hvv)
  (try rw [hV2])
  clear hvv hV2
  obtain ⟨f10, f11, f12, f13, f14, f15, f16⟩ := HX1.out
  clear HX1
  clear HR1 HS1
  go_wp2_with fail
  refine (hO.out _ HB.out).mono ?_
  rintro e v3 ⟨rfl, hvv⟩
  obtain ⟨HB, HXA, HXB, ⟨fa0, fa1, fa2, fa3, fa4, fa5, fa6⟩, fd0, fd1, fd2, fd3, fd4, fd5, fd6⟩ := keepAB hvv HB HXA HXB
  clear hvv
  go_upto_region 25 with fail
  obtain ⟨V4, hV4⟩ : ∃ x, (v3.alloc (.cells #[.int .u64 1] 25)).alloc (.cells #[.int .i64 2, .bool false, .bool false, .slice (some ⟨v3.heap.size, 0, none⟩) 1 1, .int .u64 0, .string ⟨#[]⟩, .slice none 0 0] 28) = x := ⟨_, rfl⟩
  have hvv : Below v3.heap.size v3 V4 := by rw [← hV4]; exact ((Below.refl _ _).alloc (Nat.le_refl _) _).alloc (by simp) _
  have HX2 := Lib.hid (show Bx7 V4 (v3.heap.size + 1) (.int .i64 2) (.bool false) (.bool false) (.slice (some ⟨v3.heap.size, 0, none⟩) 1 1) (.int .u64 0) (.string ⟨#[]⟩) (.slice none 0 0) by rw [← hV4]; exact Bx7.new _ _ _ _ _ _ _ _ _ (by simp))
  have HR2 := Lib.hid (show Rd V4 (.slice (some ⟨v3.heap.size, 0, none⟩) (List.length [(1 : Int)]) 1) [1] by rw [← hV4]; exact .inr ⟨v3.heap.size, 0, 1, rfl, by simp, by simp, fun i hi => by
    obtain rfl : i = 0 := by simp at hi; omega
    exact Rd_one v3 _⟩)
  have HS2 := Lib.hid sgn_one
  have HL2 := Lib.hid (show ([1] : List Int).length ≤ 30 by simp)
  obtain ⟨HB, HXA, HXB, ⟨fa0, fa1, fa2, fa3, fa4, fa5, fa6⟩, fd0, fd1, fd2, fd3, fd4, fd5, fd6⟩ := keepAB hvv HB HXA HXB
  obtain ⟨f20, f21, f22, f23, f24, f25, f26⟩ := HX2.out
  (try rw [hV4])
  clear hvv hV4
  go_wp2_with fail
  refine (hN.out _ _ _ _ _ HB.out HR2.out HS2.out HL2.out).mono ?_
  rintro e v5 ⟨n3, p3, c3, s3, rfl, hm3, hl3, hs3, hvv⟩
  obtain ⟨HB, HXA, HXB, ⟨fa0, fa1, fa2, fa3, fa4, fa5, fa6⟩, fd0, fd1, fd2, fd3, fd4, fd5, fd6⟩ := keepAB hvv HB HXA HXB
  replace HX2 := Lib.hid (HX2.out.keep hvv)
  obtain ⟨f20, f21, f22, f23, f24, f25, f26⟩ := HX2.out
  replace HR2 := Lib.hid (HR2.out.keep hvv)
  have HR3 := Lib.hid (hm3.rd (by omega))
  have HS3 := Lib.hid hs3
  have HL3 := Lib.hid hl3
  clear hm3 hs3 hl3
  clear hvv
  clear HX2
  clear HR2 HS2
  go_upto_region 26 with fail
  obtain ⟨V5, hV5⟩ : ∃ x, v5.alloc (.cells #[.int .i64 KN, .bool false, .bool n3, .slice p3 s3.length c3, .int .u64 0, .string ⟨#[]⟩, .slice none 0 0] 28) = x := ⟨_, rfl⟩
  have hvv : Below v5.heap.size v5 V5 := by rw [← hV5]; exact (Below.refl _ _).alloc (Nat.le_refl _) _
  have HX3 := Lib.hid (show Bx7 V5 v5.heap.size (.int .i64 KN) (.bool false) (.bool n3) (.slice p3 s3.length c3) (.int .u64 0) (.string ⟨#[]⟩) (.slice none 0 0) by rw [← hV5]; exact Bx7.new _ _ _ _ _ _ _ _ _ rfl)
  obtain ⟨HB, HXA, HXB, ⟨fa0, fa1, fa2, fa3, fa4, fa5, fa6⟩, fd0, fd1, fd2, fd3, fd4, fd5, fd6⟩ := keepAB hvv HB HXA HXB
  replace HR3 := Lib.hid (HR3.out.keep hvv)
  (try rw [hV5])
  clear hvv hV5
  obtain ⟨f30, f31, f32, f33, f34, f35, f36⟩ := HX3.out
  go_wp2_with fail
  refine (hX.out _ HB.out).mono ?_
  rintro e v6 ⟨n4, p4, c4, s4, rfl, hm4, hl4, hs4, hvv⟩
  obtain ⟨HB, HXA, HXB, ⟨fa0, fa1, fa2, fa3, fa4, fa5, fa6⟩, fd0, fd1, fd2, fd3, fd4, fd5, fd6⟩ := keepAB hvv HB HXA HXB
  replace HX3 := Lib.hid (HX3.out.keep hvv)
  obtain ⟨f30, f31, f32, f33, f34, f35, f36⟩ := HX3.out
  replace HR3 := Lib.hid (HR3.out.keep hvv)
  have HR4 := Lib.hid (hm4.rd (by omega))
  have HS4 := Lib.hid hs4
  have HL4 := Lib.hid hl4
  clear hm4 hs4 hl4
  clear hvv
  go_upto_region 27 with fail
  obtain ⟨V6, hV6⟩ : ∃ x, v6.alloc (.cells #[.int .i64 KX, .bool false, .bool n4, .slice p4 s4.length c4, .int .u64 0, .string SX, .slice none 0 0] 28) = x := ⟨_, rfl⟩
  have hvv : Below v6.heap.size v6 V6 := by rw [← hV6]; exact (Below.refl _ _).alloc (Nat.le_refl _) _
  have HX4 := Lib.hid (show Bx7 V6 v6.heap.size (.int .i64 KX) (.bool false) (.bool n4) (.slice p4 s4.length c4) (.int .u64 0) (.string SX) (.slice none 0 0) by rw [← hV6]; exact Bx7.new _ _ _ _ _ _ _ _ _ rfl)
  obtain ⟨HB, HXA, HXB, ⟨fa0, fa1, fa2, fa3, fa4, fa5, fa6⟩, fd0, fd1, fd2, fd3, fd4, fd5, fd6⟩ := keepAB hvv HB HXA HXB
  replace HX3 := Lib.hid (HX3.out.keep hvv)
  obtain ⟨f30, f31, f32, f33, f34, f35, f36⟩ := HX3.out
  replace HR3 := Lib.hid (HR3.out.keep hvv)
  replace HR4 := Lib.hid (HR4.out.keep hvv)
  (try rw [hV6])
  clear hvv hV6
  obtain ⟨f40, f41, f42, f43, f44, f45, f46⟩ := HX4.out
  go_wp2_with fail
  refine (hY.out _ _ _ _ _ HB.out HR3.out HS3.out HL3.out).mono ?_
  rintro e v7 ⟨n5, p5, c5, s5, rfl, hm5, hl5, hs5, hvv⟩
  obtain ⟨HB, HXA, HXB, ⟨fa0, fa1, fa2, fa3, fa4, fa5, fa6⟩, fd0, fd1, fd2, fd3, fd4, fd5, fd6⟩ := keepAB hvv HB HXA HXB
  replace HX3 := Lib.hid (HX3.out.keep hvv)
  obtain ⟨f30, f31, f32, f33, f34, f35, f36⟩ := HX3.out
  replace HX4 := Lib.hid (HX4.out.keep hvv)
  obtain ⟨f40, f41, f42, f43, f44, f45, f46⟩ := HX4.out
  replace HR3 := Lib.hid (HR3.out.keep hvv)
  replace HR4 := Lib.hid (HR4.out.keep hvv)
  have HR5 := Lib.hid (hm5.rd (by omega))
  have HS5 := Lib.hid hs5
  have HL5 := Lib.hid hl5
  clear hm5 hs5 hl5
  clear hvv
  clear HX3
  clear HR3 HS3
  go_upto_region 28 with fail
  obtain ⟨V7, hV7⟩ : ∃ x, v7.alloc (.cells #[.int .i64 KY, .bool false, .bool n5, .slice p5 s5.length c5, .int .u64 0, .string SY, .slice none 0 0] 28) = x := ⟨_, rfl⟩
  have hvv : Below v7.heap.size v7 V7 := by rw [← hV7]; exact (Below.refl _ _).alloc (Nat.le_refl _) _
  have HX5 := Lib.hid (show Bx7 V7 v7.heap.size (.int .i64 KY) (.bool false) (.bool n5) (.slice p5 s5.length c5) (.int .u64 0) (.string SY) (.slice none 0 0) by rw [← hV7]; exact Bx7.new _ _ _ _ _ _ _ _ _ rfl)
  obtain ⟨HB, HXA, HXB, ⟨fa0, fa1, fa2, fa3, fa4, fa5, fa6⟩, fd0, fd1, fd2, fd3, fd4, fd5, fd6⟩ := keepAB hvv HB HXA HXB
  replace HX4 := Lib.hid (HX4.out.keep hvv)
  obtain ⟨f40, f41, f42, f43, f44, f45, f46⟩ := HX4.out
  replace HR4 := Lib.hid (HR4.out.keep hvv)
  replace HR5 := Lib.hid (HR5.out.keep hvv)
  (try rw [hV7])
  clear hvv hV7
  obtain ⟨f50, f51, f52, f53, f54, f55, f56⟩ := HX5.out
  by_cases qN : XN = 0
  rotate_left
  · have qNb : (XN != 0) = true := by simpa using qN
    clear qN
    go_wp2_with fail
    go_ret
    exact ⟨by rfl, HB.out⟩
  have qNb : (XN != 0) = false := by simpa using qN
  by_cases qX : XX = 0
  rotate_left
  · have qXb : (XX != 0) = true := by simpa using qX
    clear qX
    go_wp2_with fail
    go_ret
    exact ⟨by rfl, HB.out⟩
  have qXb : (XX != 0) = false := by simpa using qX
  by_cases qY : XY = 0
  rotate_left
  · have qYb : (XY != 0) = true := by simpa using qY
    clear qY
    go_wp2_with fail
    go_ret
    exact ⟨by rfl, HB.out⟩
  have qYb : (XY != 0) = false := by simpa using qY
  cases hnB : nB with
  | true =>
    subst hnB
    go_wp2_with fail
    go_ret
    exact ⟨by rfl, HB.out⟩
  | false =>
    have hZ1 := Lib.hid (hZ.out qN qX qY hnB)
    have hE1 := Lib.hid (hE.out qN qX qY hnB)
    subst hnB
    clear qN qX qY hZ hE
    go_wp2_with fail
    refine (hZ1.out _ _ _ _ _ HB.out HR4.out HS4.out HL4.out).mono ?_
    rintro e v8 ⟨n6, p6, c6, s6, rfl, hm6, hl6, hs6, hvv⟩
    obtain ⟨HB, HXA, HXB, ⟨fa0, fa1, fa2, fa3, fa4, fa5, fa6⟩, fd0, fd1, fd2, fd3, fd4, fd5, fd6⟩ := keepAB hvv HB HXA HXB
    replace HX4 := Lib.hid (HX4.out.keep hvv)
    obtain ⟨f40, f41, f42, f43, f44, f45, f46⟩ := HX4.out
    replace HX5 := Lib.hid (HX5.out.keep hvv)
    obtain ⟨f50, f51, f52, f53, f54, f55, f56⟩ := HX5.out
    replace HR4 := Lib.hid (HR4.out.keep hvv)
    replace HR5 := Lib.hid (HR5.out.keep hvv)
    have HR6 := Lib.hid (hm6.rd (by omega))
    have HS6 := Lib.hid hs6
    have HL6 := Lib.hid hl6
    clear hm6 hs6 hl6
    clear hvv
    clear HX4
    clear HR4 HS4
    go_upto_region 31 with fail
    obtain ⟨V8, hV8⟩ : ∃ x, v8.alloc (.cells #[.int .i64 4, .bool false, .bool n6, .slice p6 s6.length c6, .int .u64 0, .string SZ, .slice none 0 0] 28) = x := ⟨_, rfl⟩
    have hvv : Below v8.heap.size v8 V8 := by rw [← hV8]; exact (Below.refl _ _).alloc (Nat.le_refl _) _
    have HX6 := Lib.hid (show Bx7 V8 v8.heap.size (.int .i64 4) (.bool false) (.bool n6) (.slice p6 s6.length c6) (.int .u64 0) (.string SZ) (.slice none 0 0) by rw [← hV8]; exact Bx7.new _ _ _ _ _ _ _ _ _ rfl)
    obtain ⟨HB, HXA, HXB, ⟨fa0, fa1, fa2, fa3, fa4, fa5, fa6⟩, fd0, fd1, fd2, fd3, fd4, fd5, fd6⟩ := keepAB hvv HB HXA HXB
    replace HX5 := Lib.hid (HX5.out.keep hvv)
    obtain ⟨f50, f51, f52, f53, f54, f55, f56⟩ := HX5.out
    replace HR5 := Lib.hid (HR5.out.keep hvv)
    replace HR6 := Lib.hid (HR6.out.keep hvv)
    (try rw [hV8])
    clear hvv hV8
    obtain ⟨f60, f61, f62, f63, f64, f65, f66⟩ := HX6.out
    go_wp2_with fail
    refine (hE1.out _ _ _ _ _ _ _ _ _ HB.out HR5.out HS5.out HL5.out HR6.out HS6.out HL6.out).mono ?_
    rintro e v9 ⟨rfl, hvv⟩
    obtain ⟨HB, HXA, HXB, ⟨fa0, fa1, fa2, fa3, fa4, fa5, fa6⟩, fd0, fd1, fd2, fd3, fd4, fd5, fd6⟩ := keepAB hvv HB HXA HXB
    replace HX5 := Lib.hid (HX5.out.keep hvv)
    obtain ⟨f50, f51, f52, f53, f54, f55, f56⟩ := HX5.out
    replace HX6 := Lib.hid (HX6.out.keep hvv)
    obtain ⟨f60, f61, f62, f63, f64, f65, f66⟩ := HX6.out
    replace HR5 := Lib.hid (HR5.out.keep hvv)
    replace HR6 := Lib.hid (HR6.out.keep hvv)
    clear hvv
    go_wp2_with fail
    go_ret
    exact ⟨by rfl, HB.out⟩
end Go.Proofs.YtpebnofjcodikaaGreatDoor
