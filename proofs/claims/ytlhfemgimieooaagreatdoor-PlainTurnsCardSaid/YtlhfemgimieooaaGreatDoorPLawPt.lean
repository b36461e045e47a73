/- The law PlainTurns: both sides' Un, ToInt and ToFloat answer one value. -/
import Derived.Test.YtlhfemgimieooaaGreatDoorPPtC
import Derived.Test.YtlhfemgimieooaaGreatDoorPGOf
import Derived.Test.YtlhfemgimieooaaGreatDoorPGPiJ
import Derived.Test.YtlhfemgimieooaaGreatDoorPGOp
set_option linter.unusedVariables false
set_option linter.unusedSimpArgs false
set_option maxRecDepth 100000
set_option maxHeartbeats 8000000
namespace Go.Proofs.YtlhfemgimieooaaGreatDoor
open Go.Lib (hid)
open Go Go.ChangeShapes Go.WideShapes Go.ChangeAt Go.RowKit
theorem lis_val (k : Int) (b : Nat) (n1 n2 : Bool) (u1 u2 : Value) (xs ys : List Int) (z x : Int) (w : World) (hr1 : Rd w u1 xs) (hr2 : Rd w u2 ys) (hs1 : Sgn B18 n1 xs z) (hs2 : Sgn B18 n2 ys z) :
   Calls Tryz.prog 9 #[.agg #[.int .i64 k, .bool false, .bool n1, u1, .int .u64 (b : Int), .string ⟨#[]⟩, .slice none 0 0], .int .i64 x, .agg #[.int .i64 k, .bool false, .bool n2, u2, .int .u64 (b : Int), .string ⟨#[]⟩, .slice none 0 0], .int .i64 x] w fun e w' => e = .returned (.bool true) ∧ Below w.heap.size w w' := by
 obtain ⟨pA, cA, rfl, hcA, hmA, hpA⟩ := rd_form hr1
 obtain ⟨pB, cB, rfl, hcB, hmB, hpB⟩ := rd_form hr2
 obtain ⟨W1, hW1⟩ : ∃ x, (w.alloc (.cells #[.int .i64 k, .bool false, .bool n1, .slice pA xs.length cA, .int .u64 (b : Int), .string ⟨#[]⟩, .slice none 0 0] 28)).alloc (.cells #[.int .i64 k, .bool false, .bool n2, .slice pB ys.length cB, .int .u64 (b : Int), .string ⟨#[]⟩, .slice none 0 0] 28) = x := ⟨_, rfl⟩
 have HB1 := hid (show Below w.heap.size w W1 by rw [← hW1]; exact ((Below.refl _ _).alloc (Nat.le_refl _) _).alloc (by simp) _)
 have HI := hid (is_val k b n1 n2 _ _ xs ys z W1 (hr1.keep HB1.out) (hr2.keep HB1.out) hs1 hs2)
 clear hr1 hr2 hs1 hs2 hpA hpB
 have HXA := hid (show Bx7 W1 (w.heap.size) (.int .i64 k) (.bool false) (.bool n1) (.slice pA xs.length cA) (.int .u64 (b : Int)) (.string ⟨#[]⟩) (.slice none 0 0) by rw [← hW1]; exact (Bx7.new w _ _ _ _ _ _ _ _ rfl).keep ((Below.refl _ _).alloc (Nat.le_refl _) _))
 have HXB := hid (show Bx7 W1 (w.heap.size + 1) (.int .i64 k) (.bool false) (.bool n2) (.slice pB ys.length cB) (.int .u64 (b : Int)) (.string ⟨#[]⟩) (.slice none 0 0) by rw [← hW1]; exact Bx7.new _ _ _ _ _ _ _ _ _ (by simp))
 have fa0 := HXA.out.c0
 have fa1 := HXA.out.c1
 have fa2 := HXA.out.c2
 have fa3 := HXA.out.c3
 have fa4 := HXA.out.c4
 have fa5 := HXA.out.c5
 have fa6 := HXA.out.c6
 have fd0 := HXB.out.c0
 have fd1 := HXB.out.c1
 have fd2 := HXB.out.c2
 have fd3 := HXB.out.c3
 have fd4 := HXB.out.c4
 have fd5 := HXB.out.c5
 have fd6 := HXB.out.c6
 have e1 : (x == x) = true := by simp
 go_enter Tryz.func9, Tryz.ntmps9
 go_wp2_with (first
   | (go_at_call 17; (try rw [hW1]); refine HI.out.mono ?_; rintro e w2 ⟨rfl, hbb⟩; have HB2 := hid (HB1.out.trans (hbb.mono HB1.out.size)); clear hbb HI)
   | fail)
 go_ret
 exact ⟨by rfl, HB2.out⟩
def Fars (v : Value) (ws : List Int) (B : Nat) : Prop := (∃ p : Option Addr, v = .slice p 0 0 ∧ ws = []) ∨ ∃ b off c, v = .slice (some ⟨b, off, none⟩) ws.length c ∧ ws.length ≤ c ∧ ws.length ≤ 17592186043904 ∧ (ws.length = 0 ∨ b ≠ B)
theorem Rd.fars {w : World} {v : Value} {ws : List Int} (h : Rd w v ws) : Fars v ws w.heap.size := by
 rcases h with h | ⟨b, off, c, h0, h1, h2, h3⟩
 · exact .inl h
 · refine .inr ⟨b, off, c, h0, h1, h2, ?_⟩
   by_cases hl : ws.length = 0
   · exact .inl hl
   · have := World.block_lt_of_cell? _ _ (h3 0 (by omega))
     exact .inr (Nat.ne_of_lt this)
theorem Fars.far {w : World} {v : Value} {ws : List Int} {B : Nat} (h : Fars v ws B) (hr : Rd w v ws) (v0 v1 v2 v3 v4 v5 v6 : Value) : Rd (put7 w B v0 v1 v2 v3 v4 v5 v6) v ws := by
 rcases h with h | ⟨b, off, c, h0, h1, h2, h3⟩
 · exact .inl h
 · rcases hr with hr | ⟨b', off', c', g0, g1, g2, g3⟩
   · exact .inl hr
   · refine .inr ⟨b', off', c', g0, g1, g2, fun i hi => ?_⟩
     rw [h0] at g0
     simp only [Value.slice.injEq, Option.some.injEq, Addr.mk.injEq] at g0
     obtain ⟨⟨rfl, _, _⟩, _, _⟩ := g0
     exact put7_far (g3 i hi) (fun e => by rcases h3 with h3 | h3 <;> omega) _ _ _ _ _ _ _
theorem Bx7.far {w w' : World} {A B : Nat} {a0 a1 a2 a3 a4 a5 a6 v0 v1 v2 v3 v4 v5 v6 : Value} (h : Bx7 w A a0 a1 a2 a3 a4 a5 a6) (hn : B ≠ A) (e : put7 w B v0 v1 v2 v3 v4 v5 v6 = w') : Bx7 w' A a0 a1 a2 a3 a4 a5 a6 := by
 rw [← e]
 exact ⟨put7_far h.c0 hn _ _ _ _ _ _ _, put7_far h.c1 hn _ _ _ _ _ _ _, put7_far h.c2 hn _ _ _ _ _ _ _, put7_far h.c3 hn _ _ _ _ _ _ _, put7_far h.c4 hn _ _ _ _ _ _ _, put7_far h.c5 hn _ _ _ _ _ _ _, put7_far h.c6 hn _ _ _ _ _ _ _⟩
theorem Rd.len {w : World} {v : Value} {ws : List Int} (h : Rd w v ws) : ws.length ≤ 17592186043904 := by
 rcases h with ⟨_, _, rfl⟩ | ⟨_, _, _, _, _, h, _⟩
 · simp
 · exact h
theorem Bw7.put {w : World} {B : Nat} {a0 a1 a2 a3 a4 a5 a6 : Value} (h : Bw7 w B a0 a1 a2 a3 a4 a5 a6) (v0 v1 v2 v3 v4 v5 v6 : Value) : Bw7 (put7 w B v0 v1 v2 v3 v4 v5 v6) B v0 v1 v2 v3 v4 v5 v6 := by
 refine ⟨put7_bx h.b _ _ _ _ _ _ _, ?_, ?_, ?_, ?_, ?_, ?_, ?_⟩
 · unfold put7; simp only [World.frozen?_setCell]; exact h.f0
 · unfold put7; simp only [World.frozen?_setCell]; exact h.f1
 · unfold put7; simp only [World.frozen?_setCell]; exact h.f2
 · unfold put7; simp only [World.frozen?_setCell]; exact h.f3
 · unfold put7; simp only [World.frozen?_setCell]; exact h.f4
 · unfold put7; simp only [World.frozen?_setCell]; exact h.f5
 · unfold put7; simp only [World.frozen?_setCell]; exact h.f6
theorem pturns_good (op k : Int) (y n : Bool) (p : Option Addr) (ws : List Int) (c : Nat) (b : Nat) (s : ByteArray) (ip : Option Addr) (m ic : Nat) (w : World) (kU zU : Int) (bU : Nat) (xU : Int) (kI zI : Int) (bI : Nat) (xI : Int) (kF zF : Int) (bF : Nat) (xF : Int) (hz : zF = 0) (hG : ∀ W, Below w.heap.size w W → Calls Tryz.prog 8 #[.agg #[.int .i64 k, .bool y, .bool n, .slice p ws.length c, .int .u64 (b : Int), .string s, .slice ip m ic]] W fun e w' => e = .returned (.bool true) ∧ Below W.heap.size W w') (hU : ∀ W, Below w.heap.size w W → Calls Tryz.prog 5 #[.int .i64 op, .agg #[.int .i64 k, .bool y, .bool n, .slice p ws.length c, .int .u64 (b : Int), .string s, .slice ip m ic]] W (ValP kU zU bU xU W)) (hI : ∀ W, Below w.heap.size w W → Calls Tryz.prog 6 #[.agg #[.int .i64 k, .bool y, .bool n, .slice p ws.length c, .int .u64 (b : Int), .string s, .slice ip m ic]] W (ValP kI zI bI xI W)) (hF : ∀ W, Below w.heap.size w W → Calls Tryz.prog 7 #[.agg #[.int .i64 k, .bool y, .bool n, .slice p ws.length c, .int .u64 (b : Int), .string s, .slice ip m ic]] W (ValP kF zF bF xF W)) (dU : ∀ W, Below w.heap.size w W → Calls Tryz.prog 10 #[.int .i64 op, .agg #[.int .i64 k, .bool y, .bool n, .slice p ws.length c, .int .u64 (b : Int), .string s, .slice ip m ic]] W (ValP kU zU bU xU W)) (dI : ∀ W, Below w.heap.size w W → Calls Tryz.prog 11 #[.agg #[.int .i64 k, .bool y, .bool n, .slice p ws.length c, .int .u64 (b : Int), .string s, .slice ip m ic]] W (ValQ bU kI zI bI xI W)) (dF : ∀ W, Below w.heap.size w W → Calls Tryz.prog 12 #[.agg #[.int .i64 k, .bool y, .bool n, .slice p ws.length c, .int .u64 (b : Int), .string s, .slice ip m ic]] W (ValP kF zF bF xF W)) :
   Calls Tryz.prog 3 #[.int .i64 op, .agg #[.int .i64 k, .bool y, .bool n, .slice p ws.length c, .int .u64 (b : Int), .string s, .slice ip m ic]] w fun e w' => e = .returned (.bool true) ∧ Below w.heap.size w w' := by
 obtain ⟨W1, hW1⟩ : ∃ x, w.alloc (.cells #[.int .i64 k, .bool y, .bool n, .slice p ws.length c, .int .u64 (b : Int), .string s, .slice ip m ic] 28) = x := ⟨_, rfl⟩
 have HB := hid (show Below w.heap.size w W1 by rw [← hW1]; exact (Below.refl _ _).alloc (Nat.le_refl _) _)
 have HXA := hid (show Bx7 W1 w.heap.size (.int .i64 k) (.bool y) (.bool n) (.slice p ws.length c) (.int .u64 (b : Int)) (.string s) (.slice ip m ic) by rw [← hW1]; exact (Bx7.new w _ _ _ _ _ _ _ _ rfl))
 replace hG := hid hG
 replace hU := hid hU
 replace hI := hid hI
 replace hF := hid hF
 replace dU := hid dU
 replace dI := hid dI
 replace dF := hid dF
 replace hz := hid hz
 obtain ⟨fa0, fa1, fa2, fa3, fa4, fa5, fa6⟩ := HXA.out
 go_enter Tryz.func3, Tryz.ntmps3
 go_wp2_with fail
 (try rw [hW1])
 clear hW1
 refine (known15 _).mono ?_
 rintro e v1 ⟨rfl, hvv⟩
 clear fa0 fa1 fa2 fa3 fa4 fa5 fa6
 replace HXA := hid (HXA.out.keep hvv)
 obtain ⟨fa0, fa1, fa2, fa3, fa4, fa5, fa6⟩ := HXA.out
 replace HB := hid (HB.out.trans (hvv.mono HB.out.size))
 clear hvv
 go_wp2_with fail
 refine (hU.out _ HB.out).mono ?_
 rintro e v2 ⟨n1, p1, c1, s1, rfl, hr1, hs1, hvv⟩
 clear fa0 fa1 fa2 fa3 fa4 fa5 fa6
 replace HXA := hid (HXA.out.keep hvv)
 obtain ⟨fa0, fa1, fa2, fa3, fa4, fa5, fa6⟩ := HXA.out
 replace HB := hid (HB.out.trans (hvv.mono HB.out.size))
 have HR1 := hid hr1
 have HS1 := hid hs1
 clear hr1 hs1
 clear hvv
 go_upto_region 4 with fail
 obtain ⟨V2, hV2⟩ : ∃ x, v2.alloc (.cells #[.int .i64 kU, .bool false, .bool n1, .slice p1 s1.length c1, .int .u64 (bU : Int), .string ⟨#[]⟩, .slice none 0 0] 28) = x := ⟨_, rfl⟩
 have hvv : Below v2.heap.size v2 V2 := by rw [← hV2]; exact (Below.refl _ _).alloc (Nat.le_refl _) _
 have HX1 := hid (show Bx7 V2 v2.heap.size (.int .i64 kU) (.bool false) (.bool n1) (.slice p1 s1.length c1) (.int .u64 (bU : Int)) (.string ⟨#[]⟩) (.slice none 0 0) by rw [← hV2]; exact Bx7.new _ _ _ _ _ _ _ _ _ rfl)
 clear fa0 fa1 fa2 fa3 fa4 fa5 fa6
 replace HXA := hid (HXA.out.keep hvv)
 obtain ⟨fa0, fa1, fa2, fa3, fa4, fa5, fa6⟩ := HXA.out
 replace HR1 := hid (HR1.out.keep hvv)
 replace HB := hid (HB.out.trans (hvv.mono HB.out.size))
 (try rw [hV2])
 clear hvv hV2
 obtain ⟨fb0, fb1, fb2, fb3, fb4, fb5, fb6⟩ := HX1.out
 go_wp2_with fail
 refine (hI.out _ HB.out).mono ?_
 rintro e v3 ⟨n2, p2, c2, s2, rfl, hr2, hs2, hvv⟩
 clear fa0 fa1 fa2 fa3 fa4 fa5 fa6
 replace HXA := hid (HXA.out.keep hvv)
 obtain ⟨fa0, fa1, fa2, fa3, fa4, fa5, fa6⟩ := HXA.out
 clear fb0 fb1 fb2 fb3 fb4 fb5 fb6
 replace HX1 := hid (HX1.out.keep hvv)
 obtain ⟨fb0, fb1, fb2, fb3, fb4, fb5, fb6⟩ := HX1.out
 replace HR1 := hid (HR1.out.keep hvv)
 replace HB := hid (HB.out.trans (hvv.mono HB.out.size))
 have HR2 := hid hr2
 have HS2 := hid hs2
 clear hr2 hs2
 clear hvv
 go_upto_region 5 with fail
 obtain ⟨V3, hV3⟩ : ∃ x, v3.alloc (.cells #[.int .i64 kI, .bool false, .bool n2, .slice p2 s2.length c2, .int .u64 (bI : Int), .string ⟨#[]⟩, .slice none 0 0] 28) = x := ⟨_, rfl⟩
 have hvv : Below v3.heap.size v3 V3 := by rw [← hV3]; exact (Below.refl _ _).alloc (Nat.le_refl _) _
 have HX2 := hid (show Bx7 V3 v3.heap.size (.int .i64 kI) (.bool false) (.bool n2) (.slice p2 s2.length c2) (.int .u64 (bI : Int)) (.string ⟨#[]⟩) (.slice none 0 0) by rw [← hV3]; exact Bx7.new _ _ _ _ _ _ _ _ _ rfl)
 clear fa0 fa1 fa2 fa3 fa4 fa5 fa6
 replace HXA := hid (HXA.out.keep hvv)
 obtain ⟨fa0, fa1, fa2, fa3, fa4, fa5, fa6⟩ := HXA.out
 clear fb0 fb1 fb2 fb3 fb4 fb5 fb6
 replace HX1 := hid (HX1.out.keep hvv)
 obtain ⟨fb0, fb1, fb2, fb3, fb4, fb5, fb6⟩ := HX1.out
 replace HR1 := hid (HR1.out.keep hvv)
 replace HR2 := hid (HR2.out.keep hvv)
 replace HB := hid (HB.out.trans (hvv.mono HB.out.size))
 (try rw [hV3])
 clear hvv hV3
 obtain ⟨fc0, fc1, fc2, fc3, fc4, fc5, fc6⟩ := HX2.out
 go_wp2_with fail
 refine (hF.out _ HB.out).mono ?_
 rintro e v4 ⟨n3, p3, c3, s3, rfl, hr3, hs3, hvv⟩
 clear fa0 fa1 fa2 fa3 fa4 fa5 fa6
 replace HXA := hid (HXA.out.keep hvv)
 obtain ⟨fa0, fa1, fa2, fa3, fa4, fa5, fa6⟩ := HXA.out
 clear fb0 fb1 fb2 fb3 fb4 fb5 fb6
 replace HX1 := hid (HX1.out.keep hvv)
 obtain ⟨fb0, fb1, fb2, fb3, fb4, fb5, fb6⟩ := HX1.out
 clear fc0 fc1 fc2 fc3 fc4 fc5 fc6
 replace HX2 := hid (HX2.out.keep hvv)
 obtain ⟨fc0, fc1, fc2, fc3, fc4, fc5, fc6⟩ := HX2.out
 replace HR1 := hid (HR1.out.keep hvv)
 replace HR2 := hid (HR2.out.keep hvv)
 replace HB := hid (HB.out.trans (hvv.mono HB.out.size))
 have HR3 := hid hr3
 have HS3 := hid hs3
 clear hr3 hs3
 clear hvv
 go_upto_region 6 with fail
 obtain ⟨V4, hV4⟩ : ∃ x, v4.alloc (.cells #[.int .i64 kF, .bool false, .bool n3, .slice p3 s3.length c3, .int .u64 (bF : Int), .string ⟨#[]⟩, .slice none 0 0] 28) = x := ⟨_, rfl⟩
 have hvv : Below v4.heap.size v4 V4 := by rw [← hV4]; exact (Below.refl _ _).alloc (Nat.le_refl _) _
 have HX3 := hid (show Bx7 V4 v4.heap.size (.int .i64 kF) (.bool false) (.bool n3) (.slice p3 s3.length c3) (.int .u64 (bF : Int)) (.string ⟨#[]⟩) (.slice none 0 0) by rw [← hV4]; exact Bx7.new _ _ _ _ _ _ _ _ _ rfl)
 clear fa0 fa1 fa2 fa3 fa4 fa5 fa6
 replace HXA := hid (HXA.out.keep hvv)
 obtain ⟨fa0, fa1, fa2, fa3, fa4, fa5, fa6⟩ := HXA.out
 clear fb0 fb1 fb2 fb3 fb4 fb5 fb6
 replace HX1 := hid (HX1.out.keep hvv)
 obtain ⟨fb0, fb1, fb2, fb3, fb4, fb5, fb6⟩ := HX1.out
 clear fc0 fc1 fc2 fc3 fc4 fc5 fc6
 replace HX2 := hid (HX2.out.keep hvv)
 obtain ⟨fc0, fc1, fc2, fc3, fc4, fc5, fc6⟩ := HX2.out
 replace HR1 := hid (HR1.out.keep hvv)
 replace HR2 := hid (HR2.out.keep hvv)
 replace HR3 := hid (HR3.out.keep hvv)
 replace HB := hid (HB.out.trans (hvv.mono HB.out.size))
 (try rw [hV4])
 clear hvv hV4
 obtain ⟨fd0, fd1, fd2, fd3, fd4, fd5, fd6⟩ := HX3.out
 go_wp2_with fail
 refine (hG.out _ HB.out).mono ?_
 rintro e v5 ⟨rfl, hvv⟩
 clear fa0 fa1 fa2 fa3 fa4 fa5 fa6
 replace HXA := hid (HXA.out.keep hvv)
 obtain ⟨fa0, fa1, fa2, fa3, fa4, fa5, fa6⟩ := HXA.out
 clear fb0 fb1 fb2 fb3 fb4 fb5 fb6
 replace HX1 := hid (HX1.out.keep hvv)
 obtain ⟨fb0, fb1, fb2, fb3, fb4, fb5, fb6⟩ := HX1.out
 clear fc0 fc1 fc2 fc3 fc4 fc5 fc6
 replace HX2 := hid (HX2.out.keep hvv)
 obtain ⟨fc0, fc1, fc2, fc3, fc4, fc5, fc6⟩ := HX2.out
 clear fd0 fd1 fd2 fd3 fd4 fd5 fd6
 replace HX3 := hid (HX3.out.keep hvv)
 obtain ⟨fd0, fd1, fd2, fd3, fd4, fd5, fd6⟩ := HX3.out
 replace HR1 := hid (HR1.out.keep hvv)
 replace HR2 := hid (HR2.out.keep hvv)
 replace HR3 := hid (HR3.out.keep hvv)
 replace HB := hid (HB.out.trans (hvv.mono HB.out.size))
 clear hvv
 go_wp2_with fail
 refine (dU.out _ HB.out).mono ?_
 rintro e v6 ⟨n4, p4, c4, s4, rfl, hr4, hs4, hvv⟩
 clear fa0 fa1 fa2 fa3 fa4 fa5 fa6
 replace HXA := hid (HXA.out.keep hvv)
 obtain ⟨fa0, fa1, fa2, fa3, fa4, fa5, fa6⟩ := HXA.out
 clear fb0 fb1 fb2 fb3 fb4 fb5 fb6
 replace HX1 := hid (HX1.out.keep hvv)
 obtain ⟨fb0, fb1, fb2, fb3, fb4, fb5, fb6⟩ := HX1.out
 clear fc0 fc1 fc2 fc3 fc4 fc5 fc6
 replace HX2 := hid (HX2.out.keep hvv)
 obtain ⟨fc0, fc1, fc2, fc3, fc4, fc5, fc6⟩ := HX2.out
 clear fd0 fd1 fd2 fd3 fd4 fd5 fd6
 replace HX3 := hid (HX3.out.keep hvv)
 obtain ⟨fd0, fd1, fd2, fd3, fd4, fd5, fd6⟩ := HX3.out
 replace HR1 := hid (HR1.out.keep hvv)
 replace HR2 := hid (HR2.out.keep hvv)
 replace HR3 := hid (HR3.out.keep hvv)
 replace HB := hid (HB.out.trans (hvv.mono HB.out.size))
 have HR4 := hid hr4
 have HS4 := hid hs4
 clear hr4 hs4
 clear hvv
 have HL1 := hid (World.block_lt_of_cell? _ _ fb0)
 have HL2 := hid (World.block_lt_of_cell? _ _ fc0)
 have HL3 := hid (World.block_lt_of_cell? _ _ fd0)
 have HLa := hid (World.block_lt_of_cell? _ _ fa0)
 go_upto_region 9 with fail
 obtain ⟨V6, hV6⟩ : ∃ x, v6.alloc (.cells #[.int .i64 kU, .bool false, .bool n4, .slice p4 s4.length c4, .int .u64 (bU : Int), .string ⟨#[]⟩, .slice none 0 0] 28) = x := ⟨_, rfl⟩
 have hvv : Below v6.heap.size v6 V6 := by rw [← hV6]; exact (Below.refl _ _).alloc (Nat.le_refl _) _
 have HF2 := hid (Rd.fars HR2.out)
 have HF3 := hid (Rd.fars HR3.out)
 have HV := hid (show Bw7 V6 v6.heap.size (.int .i64 kU) (.bool false) (.bool n4) (.slice p4 s4.length c4) (.int .u64 (bU : Int)) (.string ⟨#[]⟩) (.slice none 0 0) by rw [← hV6]; exact Bw7.new _ _ _ _ _ _ _ _ _ rfl)
 clear fa0 fa1 fa2 fa3 fa4 fa5 fa6
 replace HXA := hid (HXA.out.keep hvv)
 obtain ⟨fa0, fa1, fa2, fa3, fa4, fa5, fa6⟩ := HXA.out
 clear fb0 fb1 fb2 fb3 fb4 fb5 fb6
 replace HX1 := hid (HX1.out.keep hvv)
 obtain ⟨fb0, fb1, fb2, fb3, fb4, fb5, fb6⟩ := HX1.out
 clear fc0 fc1 fc2 fc3 fc4 fc5 fc6
 replace HX2 := hid (HX2.out.keep hvv)
 obtain ⟨fc0, fc1, fc2, fc3, fc4, fc5, fc6⟩ := HX2.out
 clear fd0 fd1 fd2 fd3 fd4 fd5 fd6
 replace HX3 := hid (HX3.out.keep hvv)
 obtain ⟨fd0, fd1, fd2, fd3, fd4, fd5, fd6⟩ := HX3.out
 replace HR1 := hid (HR1.out.keep hvv)
 replace HR2 := hid (HR2.out.keep hvv)
 replace HR3 := hid (HR3.out.keep hvv)
 replace HR4 := hid (HR4.out.keep hvv)
 replace HB := hid (HB.out.trans (hvv.mono HB.out.size))
 (try rw [hV6])
 clear hvv hV6
 obtain ⟨⟨fe0, fe1, fe2, fe3, fe4, fe5, fe6⟩, ve0, ve1, ve2, ve3, ve4, ve5, ve6⟩ := HV.out
 go_wp2_with fail
 refine (lis_val kU bU n1 n4 _ _ s1 s4 zU xU _ HR1.out HR4.out HS1.out HS4.out).mono ?_
 rintro e v7 ⟨rfl, hvv⟩
 clear fa0 fa1 fa2 fa3 fa4 fa5 fa6
 replace HXA := hid (HXA.out.keep hvv)
 obtain ⟨fa0, fa1, fa2, fa3, fa4, fa5, fa6⟩ := HXA.out
 clear fb0 fb1 fb2 fb3 fb4 fb5 fb6
 replace HX1 := hid (HX1.out.keep hvv)
 obtain ⟨fb0, fb1, fb2, fb3, fb4, fb5, fb6⟩ := HX1.out
 clear fc0 fc1 fc2 fc3 fc4 fc5 fc6
 replace HX2 := hid (HX2.out.keep hvv)
 obtain ⟨fc0, fc1, fc2, fc3, fc4, fc5, fc6⟩ := HX2.out
 clear fd0 fd1 fd2 fd3 fd4 fd5 fd6
 replace HX3 := hid (HX3.out.keep hvv)
 obtain ⟨fd0, fd1, fd2, fd3, fd4, fd5, fd6⟩ := HX3.out
 replace HR1 := hid (HR1.out.keep hvv)
 replace HR2 := hid (HR2.out.keep hvv)
 replace HR3 := hid (HR3.out.keep hvv)
 replace HR4 := hid (HR4.out.keep hvv)
 clear fe0 fe1 fe2 fe3 fe4 fe5 fe6 ve0 ve1 ve2 ve3 ve4 ve5 ve6
 replace HV := hid (HV.out.keep hvv)
 obtain ⟨⟨fe0, fe1, fe2, fe3, fe4, fe5, fe6⟩, ve0, ve1, ve2, ve3, ve4, ve5, ve6⟩ := HV.out
 replace HB := hid (HB.out.trans (hvv.mono HB.out.size))
 clear hvv
 clear fb0 fb1 fb2 fb3 fb4 fb5 fb6 HX1
 clear HR1
 clear HR4
 go_wp2_with fail
 have HLV := hid (World.block_lt_of_cell? _ _ HV.out.b.c0)
 refine (dI.out _ HB.out).mono ?_
 rintro e v8 ⟨n5, p5, c5, s5, rfl, hr5, hs5, hq5, hvv⟩
 clear fa0 fa1 fa2 fa3 fa4 fa5 fa6
 replace HXA := hid (HXA.out.keep hvv)
 obtain ⟨fa0, fa1, fa2, fa3, fa4, fa5, fa6⟩ := HXA.out
 clear fc0 fc1 fc2 fc3 fc4 fc5 fc6
 replace HX2 := hid (HX2.out.keep hvv)
 obtain ⟨fc0, fc1, fc2, fc3, fc4, fc5, fc6⟩ := HX2.out
 clear fd0 fd1 fd2 fd3 fd4 fd5 fd6
 replace HX3 := hid (HX3.out.keep hvv)
 obtain ⟨fd0, fd1, fd2, fd3, fd4, fd5, fd6⟩ := HX3.out
 replace HR2 := hid (HR2.out.keep hvv)
 replace HR3 := hid (HR3.out.keep hvv)
 clear fe0 fe1 fe2 fe3 fe4 fe5 fe6 ve0 ve1 ve2 ve3 ve4 ve5 ve6
 replace HV := hid (HV.out.keep hvv)
 obtain ⟨⟨fe0, fe1, fe2, fe3, fe4, fe5, fe6⟩, ve0, ve1, ve2, ve3, ve4, ve5, ve6⟩ := HV.out
 replace HB := hid (HB.out.trans (hvv.mono HB.out.size))
 have HR5 := hid hr5
 have HS5 := hid hs5
 have HQ5 := hid hq5
 have HQW := hid (fun (hq : MU v8 v7.heap.size (.slice p5 s5.length c5) s5) (x0 x1 x2 x3 x4 x5 x6 : Value) (hl : s5.length ≤ 17592186043904) => (put7_mu hq HLV.out x0 x1 x2 x3 x4 x5 x6).rd hl)
 clear hr5 hs5 hq5
 clear hvv
 go_upto_region 12 with fail
 obtain ⟨V8, hV8⟩ : ∃ x, put7 v8 (v6.heap.size) (.int .i64 kI) (.bool false) (.bool n5) (.slice p5 s5.length c5) (.int .u64 (bI : Int)) (.string ⟨#[]⟩) (.slice none 0 0) = x := ⟨_, rfl⟩
 replace HB := hid (show Below w.heap.size w V8 by rw [← hV8]; exact put7_below HB.out (by have := HLa.out; omega) _ _ _ _ _ _ _)
 have HVn := hid (show Bw7 V8 (v6.heap.size) (.int .i64 kI) (.bool false) (.bool n5) (.slice p5 s5.length c5) (.int .u64 (bI : Int)) (.string ⟨#[]⟩) (.slice none 0 0) by rw [← hV8]; exact HV.out.put _ _ _ _ _ _ _)
 clear fa0 fa1 fa2 fa3 fa4 fa5 fa6
 replace HXA := hid (Bx7.far HXA.out (by have := HLa.out; omega) hV8)
 obtain ⟨fa0, fa1, fa2, fa3, fa4, fa5, fa6⟩ := HXA.out
 clear fc0 fc1 fc2 fc3 fc4 fc5 fc6
 replace HX2 := hid (Bx7.far HX2.out (by have := HL2.out; omega) hV8)
 obtain ⟨fc0, fc1, fc2, fc3, fc4, fc5, fc6⟩ := HX2.out
 clear fd0 fd1 fd2 fd3 fd4 fd5 fd6
 replace HX3 := hid (Bx7.far HX3.out (by have := HL3.out; omega) hV8)
 obtain ⟨fd0, fd1, fd2, fd3, fd4, fd5, fd6⟩ := HX3.out
 clear fe0 fe1 fe2 fe3 fe4 fe5 fe6 ve0 ve1 ve2 ve3 ve4 ve5 ve6
 replace HR2 := hid (show Rd V8 _ s2 by rw [← hV8]; exact HF2.out.far HR2.out _ _ _ _ _ _ _)
 replace HR3 := hid (show Rd V8 _ s3 by rw [← hV8]; exact HF3.out.far HR3.out _ _ _ _ _ _ _)
 replace HR5 := hid (show Rd V8 _ s5 by rw [← hV8]; exact HQ5.out.elim (fun hq => by subst hq; exact HR5.out.put7 (k := 0) HV.out.b _ _ _ _ _ _) (fun hq => HQW.out hq _ _ _ _ _ _ _ (HR5.out.len)))
 replace HV := HVn
 clear HVn
 obtain ⟨⟨fe0, fe1, fe2, fe3, fe4, fe5, fe6⟩, ve0, ve1, ve2, ve3, ve4, ve5, ve6⟩ := HV.out
 unfold put7 at hV8
 (try rw [hV8])
 clear hV8
 go_wp2_with fail
 refine (lis_val kI bI n2 n5 _ _ s2 s5 zI xI _ HR2.out HR5.out HS2.out HS5.out).mono ?_
 rintro e v9 ⟨rfl, hvv⟩
 clear fa0 fa1 fa2 fa3 fa4 fa5 fa6
 replace HXA := hid (HXA.out.keep hvv)
 obtain ⟨fa0, fa1, fa2, fa3, fa4, fa5, fa6⟩ := HXA.out
 clear fc0 fc1 fc2 fc3 fc4 fc5 fc6
 replace HX2 := hid (HX2.out.keep hvv)
 obtain ⟨fc0, fc1, fc2, fc3, fc4, fc5, fc6⟩ := HX2.out
 clear fd0 fd1 fd2 fd3 fd4 fd5 fd6
 replace HX3 := hid (HX3.out.keep hvv)
 obtain ⟨fd0, fd1, fd2, fd3, fd4, fd5, fd6⟩ := HX3.out
 replace HR2 := hid (HR2.out.keep hvv)
 replace HR3 := hid (HR3.out.keep hvv)
 replace HR5 := hid (HR5.out.keep hvv)
 clear fe0 fe1 fe2 fe3 fe4 fe5 fe6 ve0 ve1 ve2 ve3 ve4 ve5 ve6
 replace HV := hid (HV.out.keep hvv)
 obtain ⟨⟨fe0, fe1, fe2, fe3, fe4, fe5, fe6⟩, ve0, ve1, ve2, ve3, ve4, ve5, ve6⟩ := HV.out
 replace HB := hid (HB.out.trans (hvv.mono HB.out.size))
 clear hvv
 clear fc0 fc1 fc2 fc3 fc4 fc5 fc6 HX2
 clear HR2
 clear HR5
 go_wp2_with fail
 refine (dF.out _ HB.out).mono ?_
 rintro e v10 ⟨n6, p6, c6, s6, rfl, hr6, hs6, hvv⟩
 clear fa0 fa1 fa2 fa3 fa4 fa5 fa6
 replace HXA := hid (HXA.out.keep hvv)
 obtain ⟨fa0, fa1, fa2, fa3, fa4, fa5, fa6⟩ := HXA.out
 clear fd0 fd1 fd2 fd3 fd4 fd5 fd6
 replace HX3 := hid (HX3.out.keep hvv)
 obtain ⟨fd0, fd1, fd2, fd3, fd4, fd5, fd6⟩ := HX3.out
 replace HR3 := hid (HR3.out.keep hvv)
 clear fe0 fe1 fe2 fe3 fe4 fe5 fe6 ve0 ve1 ve2 ve3 ve4 ve5 ve6
 replace HV := hid (HV.out.keep hvv)
 obtain ⟨⟨fe0, fe1, fe2, fe3, fe4, fe5, fe6⟩, ve0, ve1, ve2, ve3, ve4, ve5, ve6⟩ := HV.out
 replace HB := hid (HB.out.trans (hvv.mono HB.out.size))
 have HR6 := hid hr6
 have HS6 := hid hs6
 clear hr6 hs6
 clear hvv
 go_upto_region 15 with fail
 obtain ⟨V10, hV10⟩ : ∃ x, put7 v10 (v6.heap.size) (.int .i64 kF) (.bool false) (.bool n6) (.slice p6 s6.length c6) (.int .u64 (bF : Int)) (.string ⟨#[]⟩) (.slice none 0 0) = x := ⟨_, rfl⟩
 replace HB := hid (show Below w.heap.size w V10 by rw [← hV10]; exact put7_below HB.out (by have := HLa.out; omega) _ _ _ _ _ _ _)
 have HVn := hid (show Bw7 V10 (v6.heap.size) (.int .i64 kF) (.bool false) (.bool n6) (.slice p6 s6.length c6) (.int .u64 (bF : Int)) (.string ⟨#[]⟩) (.slice none 0 0) by rw [← hV10]; exact HV.out.put _ _ _ _ _ _ _)
 clear fa0 fa1 fa2 fa3 fa4 fa5 fa6
 replace HXA := hid (Bx7.far HXA.out (by have := HLa.out; omega) hV10)
 obtain ⟨fa0, fa1, fa2, fa3, fa4, fa5, fa6⟩ := HXA.out
 clear fd0 fd1 fd2 fd3 fd4 fd5 fd6
 replace HX3 := hid (Bx7.far HX3.out (by have := HL3.out; omega) hV10)
 obtain ⟨fd0, fd1, fd2, fd3, fd4, fd5, fd6⟩ := HX3.out
 clear fe0 fe1 fe2 fe3 fe4 fe5 fe6 ve0 ve1 ve2 ve3 ve4 ve5 ve6
 replace HR3 := hid (show Rd V10 _ s3 from HR3.out.void ((HS3.out.empty (by decide)).2 hz.out))
 replace HR6 := hid (show Rd V10 _ s6 from HR6.out.void ((HS6.out.empty (by decide)).2 hz.out))
 replace HV := HVn
 clear HVn
 obtain ⟨⟨fe0, fe1, fe2, fe3, fe4, fe5, fe6⟩, ve0, ve1, ve2, ve3, ve4, ve5, ve6⟩ := HV.out
 unfold put7 at hV10
 (try rw [hV10])
 clear hV10
 go_wp2_with fail
 refine (lis_val kF bF n3 n6 _ _ s3 s6 zF xF _ HR3.out HR6.out HS3.out HS6.out).mono ?_
 rintro e v11 ⟨rfl, hvv⟩
 clear fa0 fa1 fa2 fa3 fa4 fa5 fa6
 replace HXA := hid (HXA.out.keep hvv)
 obtain ⟨fa0, fa1, fa2, fa3, fa4, fa5, fa6⟩ := HXA.out
 clear fd0 fd1 fd2 fd3 fd4 fd5 fd6
 replace HX3 := hid (HX3.out.keep hvv)
 obtain ⟨fd0, fd1, fd2, fd3, fd4, fd5, fd6⟩ := HX3.out
 replace HR3 := hid (HR3.out.keep hvv)
 replace HR6 := hid (HR6.out.keep hvv)
 clear fe0 fe1 fe2 fe3 fe4 fe5 fe6 ve0 ve1 ve2 ve3 ve4 ve5 ve6
 replace HV := hid (HV.out.keep hvv)
 obtain ⟨⟨fe0, fe1, fe2, fe3, fe4, fe5, fe6⟩, ve0, ve1, ve2, ve3, ve4, ve5, ve6⟩ := HV.out
 replace HB := hid (HB.out.trans (hvv.mono HB.out.size))
 clear hvv
 go_wp2_with fail
 go_ret
 exact ⟨by rfl, HB.out⟩
theorem pturns_bad (op k : Int) (y n : Bool) (p : Option Addr) (ws : List Int) (c : Nat) (b : Nat) (s : ByteArray) (ip : Option Addr) (m ic : Nat) (w : World) (hG : ∀ W, Below w.heap.size w W → Calls Tryz.prog 8 #[.agg #[.int .i64 k, .bool y, .bool n, .slice p ws.length c, .int .u64 (b : Int), .string s, .slice ip m ic]] W fun e w' => e = .returned (.bool false) ∧ Below W.heap.size W w') (hU : ∀ W, Below w.heap.size w W → Calls Tryz.prog 5 #[.int .i64 op, .agg #[.int .i64 k, .bool y, .bool n, .slice p ws.length c, .int .u64 (b : Int), .string s, .slice ip m ic]] W (ValP 0 0 0 3 W)) (hI : ∀ W, Below w.heap.size w W → Calls Tryz.prog 6 #[.agg #[.int .i64 k, .bool y, .bool n, .slice p ws.length c, .int .u64 (b : Int), .string s, .slice ip m ic]] W (ValP 0 0 0 3 W)) (hF : ∀ W, Below w.heap.size w W → Calls Tryz.prog 7 #[.agg #[.int .i64 k, .bool y, .bool n, .slice p ws.length c, .int .u64 (b : Int), .string s, .slice ip m ic]] W (ValP 0 0 0 3 W)) :
   Calls Tryz.prog 3 #[.int .i64 op, .agg #[.int .i64 k, .bool y, .bool n, .slice p ws.length c, .int .u64 (b : Int), .string s, .slice ip m ic]] w fun e w' => e = .returned (.bool true) ∧ Below w.heap.size w w' := by
 obtain ⟨W1, hW1⟩ : ∃ x, w.alloc (.cells #[.int .i64 k, .bool y, .bool n, .slice p ws.length c, .int .u64 (b : Int), .string s, .slice ip m ic] 28) = x := ⟨_, rfl⟩
 have HB := hid (show Below w.heap.size w W1 by rw [← hW1]; exact (Below.refl _ _).alloc (Nat.le_refl _) _)
 have HXA := hid (show Bx7 W1 w.heap.size (.int .i64 k) (.bool y) (.bool n) (.slice p ws.length c) (.int .u64 (b : Int)) (.string s) (.slice ip m ic) by rw [← hW1]; exact (Bx7.new w _ _ _ _ _ _ _ _ rfl))
 replace hG := hid hG
 replace hU := hid hU
 replace hI := hid hI
 replace hF := hid hF
 obtain ⟨fa0, fa1, fa2, fa3, fa4, fa5, fa6⟩ := HXA.out
 go_enter Tryz.func3, Tryz.ntmps3
 go_wp2_with fail
 (try rw [hW1])
 clear hW1
 refine (known15 _).mono ?_
 rintro e v1 ⟨rfl, hvv⟩
 clear fa0 fa1 fa2 fa3 fa4 fa5 fa6
 replace HXA := hid (HXA.out.keep hvv)
 obtain ⟨fa0, fa1, fa2, fa3, fa4, fa5, fa6⟩ := HXA.out
 replace HB := hid (HB.out.trans (hvv.mono HB.out.size))
 clear hvv
 go_wp2_with fail
 refine (hU.out _ HB.out).mono ?_
 rintro e v2 ⟨n1, p1, c1, s1, rfl, hr1, hs1, hvv⟩
 clear fa0 fa1 fa2 fa3 fa4 fa5 fa6
 replace HXA := hid (HXA.out.keep hvv)
 obtain ⟨fa0, fa1, fa2, fa3, fa4, fa5, fa6⟩ := HXA.out
 replace HB := hid (HB.out.trans (hvv.mono HB.out.size))
 have HR1 := hid hr1
 have HS1 := hid hs1
 clear hr1 hs1
 clear hvv
 go_upto_region 4 with fail
 obtain ⟨V2, hV2⟩ : ∃ x, v2.alloc (.cells #[.int .i64 0, .bool false, .bool n1, .slice p1 s1.length c1, .int .u64 0, .string ⟨#[]⟩, .slice none 0 0] 28) = x := ⟨_, rfl⟩
 have hvv : Below v2.heap.size v2 V2 := by rw [← hV2]; exact (Below.refl _ _).alloc (Nat.le_refl _) _
 have HX1 := hid (show Bx7 V2 v2.heap.size (.int .i64 0) (.bool false) (.bool n1) (.slice p1 s1.length c1) (.int .u64 0) (.string ⟨#[]⟩) (.slice none 0 0) by rw [← hV2]; exact Bx7.new _ _ _ _ _ _ _ _ _ rfl)
 clear fa0 fa1 fa2 fa3 fa4 fa5 fa6
 replace HXA := hid (HXA.out.keep hvv)
 obtain ⟨fa0, fa1, fa2, fa3, fa4, fa5, fa6⟩ := HXA.out
 replace HR1 := hid (HR1.out.keep hvv)
 replace HB := hid (HB.out.trans (hvv.mono HB.out.size))
 (try rw [hV2])
 clear hvv hV2
 obtain ⟨fb0, fb1, fb2, fb3, fb4, fb5, fb6⟩ := HX1.out
 go_wp2_with fail
 refine (hI.out _ HB.out).mono ?_
 rintro e v3 ⟨n2, p2, c2, s2, rfl, hr2, hs2, hvv⟩
 clear fa0 fa1 fa2 fa3 fa4 fa5 fa6
 replace HXA := hid (HXA.out.keep hvv)
 obtain ⟨fa0, fa1, fa2, fa3, fa4, fa5, fa6⟩ := HXA.out
 clear fb0 fb1 fb2 fb3 fb4 fb5 fb6
 replace HX1 := hid (HX1.out.keep hvv)
 obtain ⟨fb0, fb1, fb2, fb3, fb4, fb5, fb6⟩ := HX1.out
 replace HR1 := hid (HR1.out.keep hvv)
 replace HB := hid (HB.out.trans (hvv.mono HB.out.size))
 have HR2 := hid hr2
 have HS2 := hid hs2
 clear hr2 hs2
 clear hvv
 go_upto_region 5 with fail
 obtain ⟨V3, hV3⟩ : ∃ x, v3.alloc (.cells #[.int .i64 0, .bool false, .bool n2, .slice p2 s2.length c2, .int .u64 0, .string ⟨#[]⟩, .slice none 0 0] 28) = x := ⟨_, rfl⟩
 have hvv : Below v3.heap.size v3 V3 := by rw [← hV3]; exact (Below.refl _ _).alloc (Nat.le_refl _) _
 have HX2 := hid (show Bx7 V3 v3.heap.size (.int .i64 0) (.bool false) (.bool n2) (.slice p2 s2.length c2) (.int .u64 0) (.string ⟨#[]⟩) (.slice none 0 0) by rw [← hV3]; exact Bx7.new _ _ _ _ _ _ _ _ _ rfl)
 clear fa0 fa1 fa2 fa3 fa4 fa5 fa6
 replace HXA := hid (HXA.out.keep hvv)
 obtain ⟨fa0, fa1, fa2, fa3, fa4, fa5, fa6⟩ := HXA.out
 clear fb0 fb1 fb2 fb3 fb4 fb5 fb6
 replace HX1 := hid (HX1.out.keep hvv)
 obtain ⟨fb0, fb1, fb2, fb3, fb4, fb5, fb6⟩ := HX1.out
 replace HR1 := hid (HR1.out.keep hvv)
 replace HR2 := hid (HR2.out.keep hvv)
 replace HB := hid (HB.out.trans (hvv.mono HB.out.size))
 (try rw [hV3])
 clear hvv hV3
 obtain ⟨fc0, fc1, fc2, fc3, fc4, fc5, fc6⟩ := HX2.out
 go_wp2_with fail
 refine (hF.out _ HB.out).mono ?_
 rintro e v4 ⟨n3, p3, c3, s3, rfl, hr3, hs3, hvv⟩
 clear fa0 fa1 fa2 fa3 fa4 fa5 fa6
 replace HXA := hid (HXA.out.keep hvv)
 obtain ⟨fa0, fa1, fa2, fa3, fa4, fa5, fa6⟩ := HXA.out
 clear fb0 fb1 fb2 fb3 fb4 fb5 fb6
 replace HX1 := hid (HX1.out.keep hvv)
 obtain ⟨fb0, fb1, fb2, fb3, fb4, fb5, fb6⟩ := HX1.out
 clear fc0 fc1 fc2 fc3 fc4 fc5 fc6
 replace HX2 := hid (HX2.out.keep hvv)
 obtain ⟨fc0, fc1, fc2, fc3, fc4, fc5, fc6⟩ := HX2.out
 replace HR1 := hid (HR1.out.keep hvv)
 replace HR2 := hid (HR2.out.keep hvv)
 replace HB := hid (HB.out.trans (hvv.mono HB.out.size))
 have HR3 := hid hr3
 have HS3 := hid hs3
 clear hr3 hs3
 clear hvv
 go_upto_region 6 with fail
 obtain ⟨V4, hV4⟩ : ∃ x, v4.alloc (.cells #[.int .i64 0, .bool false, .bool n3, .slice p3 s3.length c3, .int .u64 0, .string ⟨#[]⟩, .slice none 0 0] 28) = x := ⟨_, rfl⟩
 have hvv : Below v4.heap.size v4 V4 := by rw [← hV4]; exact (Below.refl _ _).alloc (Nat.le_refl _) _
 have HX3 := hid (show Bx7 V4 v4.heap.size (.int .i64 0) (.bool false) (.bool n3) (.slice p3 s3.length c3) (.int .u64 0) (.string ⟨#[]⟩) (.slice none 0 0) by rw [← hV4]; exact Bx7.new _ _ _ _ _ _ _ _ _ rfl)
 clear fa0 fa1 fa2 fa3 fa4 fa5 fa6
 replace HXA := hid (HXA.out.keep hvv)
 obtain ⟨fa0, fa1, fa2, fa3, fa4, fa5, fa6⟩ := HXA.out
 clear fb0 fb1 fb2 fb3 fb4 fb5 fb6
 replace HX1 := hid (HX1.out.keep hvv)
 obtain ⟨fb0, fb1, fb2, fb3, fb4, fb5, fb6⟩ := HX1.out
 clear fc0 fc1 fc2 fc3 fc4 fc5 fc6
 replace HX2 := hid (HX2.out.keep hvv)
 obtain ⟨fc0, fc1, fc2, fc3, fc4, fc5, fc6⟩ := HX2.out
 replace HR1 := hid (HR1.out.keep hvv)
 replace HR2 := hid (HR2.out.keep hvv)
 replace HR3 := hid (HR3.out.keep hvv)
 replace HB := hid (HB.out.trans (hvv.mono HB.out.size))
 (try rw [hV4])
 clear hvv hV4
 obtain ⟨fd0, fd1, fd2, fd3, fd4, fd5, fd6⟩ := HX3.out
 go_wp2_with fail
 refine (hG.out _ HB.out).mono ?_
 rintro e v5 ⟨rfl, hvv⟩
 clear fa0 fa1 fa2 fa3 fa4 fa5 fa6
 replace HXA := hid (HXA.out.keep hvv)
 obtain ⟨fa0, fa1, fa2, fa3, fa4, fa5, fa6⟩ := HXA.out
 clear fb0 fb1 fb2 fb3 fb4 fb5 fb6
 replace HX1 := hid (HX1.out.keep hvv)
 obtain ⟨fb0, fb1, fb2, fb3, fb4, fb5, fb6⟩ := HX1.out
 clear fc0 fc1 fc2 fc3 fc4 fc5 fc6
 replace HX2 := hid (HX2.out.keep hvv)
 obtain ⟨fc0, fc1, fc2, fc3, fc4, fc5, fc6⟩ := HX2.out
 clear fd0 fd1 fd2 fd3 fd4 fd5 fd6
 replace HX3 := hid (HX3.out.keep hvv)
 obtain ⟨fd0, fd1, fd2, fd3, fd4, fd5, fd6⟩ := HX3.out
 replace HR1 := hid (HR1.out.keep hvv)
 replace HR2 := hid (HR2.out.keep hvv)
 replace HR3 := hid (HR3.out.keep hvv)
 replace HB := hid (HB.out.trans (hvv.mono HB.out.size))
 clear hvv
 go_wp2_with fail
 refine (lis_val 0 0 n1 false _ _ s1 [] 0 3 _ HR1.out (.inl ⟨none, rfl, rfl⟩) HS1.out sgn_nil).mono ?_
 rintro e v6 ⟨rfl, hvv⟩
 clear fa0 fa1 fa2 fa3 fa4 fa5 fa6
 replace HXA := hid (HXA.out.keep hvv)
 obtain ⟨fa0, fa1, fa2, fa3, fa4, fa5, fa6⟩ := HXA.out
 clear fb0 fb1 fb2 fb3 fb4 fb5 fb6
 replace HX1 := hid (HX1.out.keep hvv)
 obtain ⟨fb0, fb1, fb2, fb3, fb4, fb5, fb6⟩ := HX1.out
 clear fc0 fc1 fc2 fc3 fc4 fc5 fc6
 replace HX2 := hid (HX2.out.keep hvv)
 obtain ⟨fc0, fc1, fc2, fc3, fc4, fc5, fc6⟩ := HX2.out
 clear fd0 fd1 fd2 fd3 fd4 fd5 fd6
 replace HX3 := hid (HX3.out.keep hvv)
 obtain ⟨fd0, fd1, fd2, fd3, fd4, fd5, fd6⟩ := HX3.out
 replace HR1 := hid (HR1.out.keep hvv)
 replace HR2 := hid (HR2.out.keep hvv)
 replace HR3 := hid (HR3.out.keep hvv)
 replace HB := hid (HB.out.trans (hvv.mono HB.out.size))
 clear hvv
 go_wp2_with fail
 refine (lis_val 0 0 n2 false _ _ s2 [] 0 3 _ HR2.out (.inl ⟨none, rfl, rfl⟩) HS2.out sgn_nil).mono ?_
 rintro e v7 ⟨rfl, hvv⟩
 clear fa0 fa1 fa2 fa3 fa4 fa5 fa6
 replace HXA := hid (HXA.out.keep hvv)
 obtain ⟨fa0, fa1, fa2, fa3, fa4, fa5, fa6⟩ := HXA.out
 clear fb0 fb1 fb2 fb3 fb4 fb5 fb6
 replace HX1 := hid (HX1.out.keep hvv)
 obtain ⟨fb0, fb1, fb2, fb3, fb4, fb5, fb6⟩ := HX1.out
 clear fc0 fc1 fc2 fc3 fc4 fc5 fc6
 replace HX2 := hid (HX2.out.keep hvv)
 obtain ⟨fc0, fc1, fc2, fc3, fc4, fc5, fc6⟩ := HX2.out
 clear fd0 fd1 fd2 fd3 fd4 fd5 fd6
 replace HX3 := hid (HX3.out.keep hvv)
 obtain ⟨fd0, fd1, fd2, fd3, fd4, fd5, fd6⟩ := HX3.out
 replace HR1 := hid (HR1.out.keep hvv)
 replace HR2 := hid (HR2.out.keep hvv)
 replace HR3 := hid (HR3.out.keep hvv)
 replace HB := hid (HB.out.trans (hvv.mono HB.out.size))
 clear hvv
 go_wp2_with fail
 refine (lis_val 0 0 n3 false _ _ s3 [] 0 3 _ HR3.out (.inl ⟨none, rfl, rfl⟩) HS3.out sgn_nil).mono ?_
 rintro e v8 ⟨rfl, hvv⟩
 clear fa0 fa1 fa2 fa3 fa4 fa5 fa6
 replace HXA := hid (HXA.out.keep hvv)
 obtain ⟨fa0, fa1, fa2, fa3, fa4, fa5, fa6⟩ := HXA.out
 clear fb0 fb1 fb2 fb3 fb4 fb5 fb6
 replace HX1 := hid (HX1.out.keep hvv)
 obtain ⟨fb0, fb1, fb2, fb3, fb4, fb5, fb6⟩ := HX1.out
 clear fc0 fc1 fc2 fc3 fc4 fc5 fc6
 replace HX2 := hid (HX2.out.keep hvv)
 obtain ⟨fc0, fc1, fc2, fc3, fc4, fc5, fc6⟩ := HX2.out
 clear fd0 fd1 fd2 fd3 fd4 fd5 fd6
 replace HX3 := hid (HX3.out.keep hvv)
 obtain ⟨fd0, fd1, fd2, fd3, fd4, fd5, fd6⟩ := HX3.out
 replace HR1 := hid (HR1.out.keep hvv)
 replace HR2 := hid (HR2.out.keep hvv)
 replace HR3 := hid (HR3.out.keep hvv)
 replace HB := hid (HB.out.trans (hvv.mono HB.out.size))
 clear hvv
 go_wp2_with fail
 go_ret
 exact ⟨by rfl, HB.out⟩
theorem good_kinds {k : Int} {y n : Bool} {ws : List Int} {b : Nat} {s : ByteArray} {m : Nat} (h : goodP k y n ws b s m = true) : k = 0 ∨ k = 1 ∨ k = 2 ∨ k = 3 ∨ k = 4 := by
 unfold goodP at h
 by_cases h0 : k = 0
 · exact .inl h0
 by_cases h1 : k = 1
 · exact .inr (.inl h1)
 by_cases h2 : k = 2
 · exact .inr (.inr (.inl h2))
 by_cases h3 : k = 3
 · exact .inr (.inr (.inr (.inl h3)))
 by_cases h4 : k = 4
 · exact .inr (.inr (.inr (.inr h4)))
 simp [h0, h1, h2, h3, h4] at h
theorem sgn_one : Sgn B18 false [1] 1 := by
 have h : Sgn B18 false [1] (sg false (val B18 [1])) := (goodB_sgn (neg := false) (ws := [1]) (by decide) (fun i => by cases i <;> simp)).1
 have e : sg false (val B18 [1]) = 1 := by decide
 rwa [e] at h
theorem num_whole {k : Int} (h : numP k = true) (h3 : k ≠ 3) : k = 1 ∨ k = 2 := by
 unfold numP at h
 simp at h
 omega
theorem whx_none {x : Int} {W : World} (e : Ending) (w' : World) (h : e = .returned (.tuple #[.agg #[.bool false, .slice none 0 0], .int .i64 x]) ∧ Below W.heap.size W w') : WhX 0 x W e w' := by
 obtain ⟨rfl, hw⟩ := h
 exact ⟨false, none, 0, [], rfl, .inl ⟨none, rfl, rfl⟩, Sgn.zero (by decide), hw⟩
theorem law_pturns {hiT loT T : Nat → Nat} (hft : TBF hiT loT T) (h3 : hiT 348 = 9223372036854775808) (h4 : loT 348 = 0) (tv : TypeId) (yv : Value) (op k : Int) (y n : Bool) (u : Value) (ws : List Int) (b : Nat) (s : ByteArray) (ip : Option Addr) (m ic : Nat) (w : World) (hr : Rd w u ws) (hf : Fit ws) (hb : b < 18446744073709551616) (hm : (m : Int) ≤ 9223372036854775807) (hs : (s.size : Int) ≤ 9223372036854775807) (hP : P10R w) (hT : PFT hiT loT T tv yv w w.heap.size) :
   Calls Tryz.prog 3 #[.int .i64 op, .agg #[.int .i64 k, .bool y, .bool n, u, .int .u64 (b : Int), .string s, .slice ip m ic]] w fun e w' => e = .returned (.bool true) ∧ Below w.heap.size w w' := by
 obtain ⟨p, c, rfl, hc, hwm, hp⟩ := rd_form hr
 have hG := fun (W : World) (hx : Below w.heap.size w W) => rgood15_any k y n _ ws b s ip m ic W hb (hr.keep hx) hf hm hs
 cases hg : goodP k y n ws b s m with
 | false =>
   rw [hg] at hG
   exact pturns_bad op k y n p ws c b s ip m ic w hG (fun W hx => un_bad op k y n _ ws b s ip m ic W hb (hr.keep hx) hf hm hs hg) (fun W hx => ti_bad k y n _ ws b s ip m ic W hb (hr.keep hx) hf hm hs hg) (fun W hx => tf_bad k y n _ ws b s ip m ic W hb (hr.keep hx) hf hm hs hg)
 | true =>
   rw [hg] at hG
   -- a whole number's float
   have hw : (k = 1 ∨ k = 2) → ∃ B X, (patB B = B ∧ B < 18446744073709551616) ∧ OFH (zP k y n ws) B X w := fun hk => by
     have hsg : ∃ n0 xs0, Sgn B18 n0 xs0 (zP k y n ws) := by
       unfold zP
       split
       · rename_i h2
         exact ⟨_, _, (goodB_sgn (good_k2 hg h2) hf).1⟩
       · split
         · exact ⟨false, [1], sgn_one⟩
         · exact ⟨false, [], sgn_nil⟩
     obtain ⟨n0, xs0, hs0⟩ := hsg
     obtain ⟨B, X, hBB, h⟩ := ofh_any hft h3 h4 tv yv n0 xs0 _ hs0
     exact ⟨B, X, hBB, h w hP hT⟩
   -- an operator of one
   have hun : ∃ kU zU bU xU, (k ≠ 3 → bU = 0) ∧ ∀ W, Below w.heap.size w W → Calls Tryz.prog 5 #[.int .i64 op, .agg #[.int .i64 k, .bool y, .bool n, .slice p ws.length c, .int .u64 (b : Int), .string s, .slice ip m ic]] W (ValP kU zU bU xU W) ∧ Calls Tryz.prog 10 #[.int .i64 op, .agg #[.int .i64 k, .bool y, .bool n, .slice p ws.length c, .int .u64 (b : Int), .string s, .slice ip m ic]] W (ValP kU zU bU xU W) := by
     cases hq : numP k with
     | false => exact ⟨0, 0, 0, 9, fun _ => rfl, fun W hx => ⟨un_kind op k y n _ ws b s ip m ic W hb (hr.keep hx) hf hm hs hg hq, du_kind op k y n _ ws b s ip m ic W hb (hr.keep hx) hf hm hs hg hq⟩⟩
     | true =>
       by_cases o1 : op = 1
       · subst o1
         by_cases hk3 : k = 3
         · subst hk3
           exact ⟨3, 0, negV b, 0, fun h => absurd rfl h, fun W hx => ⟨un_fneg y n _ ws b s ip m ic W hb (hr.keep hx) hf hm hs hg, du_fneg y n _ ws b s ip m ic W hb (hr.keep hx) hf hm hs hg⟩⟩
         · have hk : k = 1 ∨ k = 2 := num_whole hq hk3
           exact ⟨2, -(zP k y n ws), 0, 0, fun _ => rfl, fun W hx => ⟨un_wneg k y n _ ws b s ip m ic W hb (hr.keep hx) hf hm hs hk hg, du_wneg k y n _ ws b s ip m ic W hb (hr.keep hx) hf hm hs hk hg⟩⟩
       · by_cases o2 : op = 2
         · subst o2
           by_cases hk3 : k = 3
           · subst hk3
             exact ⟨3, 0, patB b, 0, fun h => absurd rfl h, fun W hx => ⟨un_fpos y n _ ws b s ip m ic W hb (hr.keep hx) hf hm hs hg, du_fpos y n _ ws b s ip m ic W hb (hr.keep hx) hf hm hs hg⟩⟩
           · have hk : k = 1 ∨ k = 2 := num_whole hq hk3
             exact ⟨2, zP k y n ws, 0, 0, fun _ => rfl, fun W hx => ⟨un_wpos k y n _ ws b s ip m ic W hb (hr.keep hx) hf hm hs hk hg, du_wpos k y n _ ws b s ip m ic W hb (hr.keep hx) hf hm hs hk hg⟩⟩
         · exact ⟨0, 0, 0, 9, fun _ => rfl, fun W hx => ⟨un_op op k y n _ ws b s ip m ic W hb (hr.keep hx) hf hm hs hg hq o1 o2, du_op op k y n _ ws b s ip m ic W hb (hr.keep hx) hf hm hs hg hq o1 o2⟩⟩
   obtain ⟨kU, zU, bU, xU, hbU, hUn⟩ := hun
   -- as an int
   have hti : ∃ kI zI bI xI, ∀ W, Below w.heap.size w W → Calls Tryz.prog 6 #[.agg #[.int .i64 k, .bool y, .bool n, .slice p ws.length c, .int .u64 (b : Int), .string s, .slice ip m ic]] W (ValP kI zI bI xI W) ∧ Calls Tryz.prog 11 #[.agg #[.int .i64 k, .bool y, .bool n, .slice p ws.length c, .int .u64 (b : Int), .string s, .slice ip m ic]] W (ValQ bU kI zI bI xI W) := by
     have qq : ∀ {k z : Int} {x : Int} {W : World} {e : Ending} {w' : World}, bU = 0 → ValP k z 0 x W e w' → ValQ bU k z 0 x W e w' := fun hb0 h => by rw [hb0]; exact h.q
     rcases good_kinds hg with rfl | rfl | rfl | rfl | rfl
     · exact ⟨0, 0, 0, 9, fun W hx => ⟨ti_none y n _ ws b s ip m ic W hb (hr.keep hx) hf hm hs hg, (di_none y n _ ws b s ip m ic W hb (hr.keep hx) hf hm hs hg).mono fun e w' h => qq (hbU (by decide)) h⟩⟩
     · exact ⟨2, zP 1 y n ws, 0, 0, fun W hx => ⟨ti_w 1 y n _ ws b s ip m ic W hb (hr.keep hx) hf hm hs (.inl rfl) hg, (di_w 1 y n _ ws b s ip m ic W hb (hr.keep hx) hf hm hs (.inl rfl) hg).mono fun e w' h => qq (hbU (by decide)) h⟩⟩
     · exact ⟨2, zP 2 y n ws, 0, 0, fun W hx => ⟨ti_w 2 y n _ ws b s ip m ic W hb (hr.keep hx) hf hm hs (.inr rfl) hg, (di_w 2 y n _ ws b s ip m ic W hb (hr.keep hx) hf hm hs (.inr rfl) hg).mono fun e w' h => qq (hbU (by decide)) h⟩⟩
     · cases hn : nanB b with
       | true => exact ⟨0, 0, 0, 1, fun W hx => ⟨ti_fbad y n _ ws b s ip m ic W hb (hr.keep hx) hf hm hs hg 0 1 (fun W => (wh_nanB b hn W).mono whx_none) (by decide), di_fbad y n _ ws b s ip m ic W hb (hr.keep hx) hf hm hs hg 1 (dwh_nan b hb hn) (by decide) bU⟩⟩
       | false =>
         cases hi : infB b with
         | true => exact ⟨0, 0, 0, 7, fun W hx => ⟨ti_fbad y n _ ws b s ip m ic W hb (hr.keep hx) hf hm hs hg 0 7 (fun W => (wh_infB b hb hn hi W).mono whx_none) (by decide), di_fbad y n _ ws b s ip m ic W hb (hr.keep hx) hf hm hs hg 7 (dwh_inf b hb hn hi) (by decide) bU⟩⟩
         | false => exact ⟨2, trZ b, 0, 0, fun W hx => ⟨ti_f y n _ ws b s ip m ic W hb (hr.keep hx) hf hm hs hg (trZ b) (whole_any b hb hn hi), di_f y n _ ws b s ip m ic W hb (hr.keep hx) hf hm hs hg (trZ b) (dwh_finM b hb hn hi) bU⟩⟩
     · by_cases hok : OkT s ∧ Small (numT s)
       · exact ⟨2, numT s, 0, 0, fun W hx => ⟨ti_s y n _ ws b s ip m ic W hb (hr.keep hx) hf hm hs hg hok, (di_s y n _ ws b s ip m ic W hb (hr.keep hx) hf hm hs hg hok).mono fun e w' h => qq (hbU (by decide)) h⟩⟩
       · exact ⟨0, 0, 0, 4, fun W hx => ⟨ti_sbad y n _ ws b s ip m ic W hb (hr.keep hx) hf hm hs hg hok, (di_sbad y n _ ws b s ip m ic W hb (hr.keep hx) hf hm hs hg hok).mono fun e w' h => qq (hbU (by decide)) h⟩⟩
   obtain ⟨kI, zI, bI, xI, hTi⟩ := hti
   -- as a float
   have htf : ∃ kF bF xF, ∀ W, Below w.heap.size w W → Calls Tryz.prog 7 #[.agg #[.int .i64 k, .bool y, .bool n, .slice p ws.length c, .int .u64 (b : Int), .string s, .slice ip m ic]] W (ValP kF 0 bF xF W) ∧ Calls Tryz.prog 12 #[.agg #[.int .i64 k, .bool y, .bool n, .slice p ws.length c, .int .u64 (b : Int), .string s, .slice ip m ic]] W (ValP kF 0 bF xF W) := by
     have wh : ∀ (hk : k = 1 ∨ k = 2), ∃ kF bF xF, ∀ W, Below w.heap.size w W → Calls Tryz.prog 7 #[.agg #[.int .i64 k, .bool y, .bool n, .slice p ws.length c, .int .u64 (b : Int), .string s, .slice ip m ic]] W (ValP kF 0 bF xF W) ∧ Calls Tryz.prog 12 #[.agg #[.int .i64 k, .bool y, .bool n, .slice p ws.length c, .int .u64 (b : Int), .string s, .slice ip m ic]] W (ValP kF 0 bF xF W) := fun hk => by
       obtain ⟨B, X, hBB, ho⟩ := hw hk
       by_cases hX : X = 0
       · subst hX
         exact ⟨3, B, 0, fun W hx => ⟨tf_w k y n _ ws b s ip m ic W hb (hr.keep hx) hf hm hs hk hg (ho.keep hx), df_w k y n _ ws b s ip m ic W hb (hr.keep hx) hf hm hs hk hg hBB (ho.keep hx)⟩⟩
       · exact ⟨0, 0, X, fun W hx => ⟨tf_wbad k y n _ ws b s ip m ic W hb (hr.keep hx) hf hm hs hk hg hX (ho.keep hx), df_wbad k y n _ ws b s ip m ic W hb (hr.keep hx) hf hm hs hk hg hX (ho.keep hx)⟩⟩
     rcases good_kinds hg with rfl | rfl | rfl | rfl | rfl
     · exact ⟨0, 0, 9, fun W hx => ⟨tf_none y n _ ws b s ip m ic W hb (hr.keep hx) hf hm hs hg, df_none y n _ ws b s ip m ic W hb (hr.keep hx) hf hm hs hg⟩⟩
     · exact wh (.inl rfl)
     · exact wh (.inr rfl)
     · exact ⟨3, patB b, 0, fun W hx => ⟨tf_f y n _ ws b s ip m ic W hb (hr.keep hx) hf hm hs hg, df_f y n _ ws b s ip m ic W hb (hr.keep hx) hf hm hs hg⟩⟩
     · obtain ⟨B, X, hk, hPa⟩ := parse_bothX hft tv yv s
       have hpw : ∀ W, Below w.heap.size w W → PFT hiT loT T tv yv W W.heap.size := fun W hx => (hT.keep hx).up hx.size
       rcases hk with ⟨rfl, hBB⟩ | ⟨rfl, hX⟩
       · exact ⟨3, B, 0, fun W hx => ⟨tf_s y n _ ws b s ip m ic W hb (hr.keep hx) hf hm hs hg B 0 rfl (fun W' hx' => (hPa W' (hpw W' (hx.trans (hx'.mono hx.size)))).1), df_s y n _ ws b s ip m ic W hb (hr.keep hx) hf hm hs hg B 0 rfl hBB (fun W' hx' => (hPa W' (hpw W' (hx.trans (hx'.mono hx.size)))).2)⟩⟩
       · exact ⟨0, 0, 4, fun W hx => ⟨tf_sbad y n _ ws b s ip m ic W hb (hr.keep hx) hf hm hs hg 0 X hX (fun W' hx' => (hPa W' (hpw W' (hx.trans (hx'.mono hx.size)))).1), df_sbad y n _ ws b s ip m ic W hb (hr.keep hx) hf hm hs hg 0 X (by rcases hX with rfl | rfl <;> decide) (fun W' hx' => (hPa W' (hpw W' (hx.trans (hx'.mono hx.size)))).2)⟩⟩
   obtain ⟨kF, bF, xF, hTf⟩ := htf
   exact pturns_good op k y n p ws c b s ip m ic w kU zU bU xU kI zI bI xI kF 0 bF xF rfl hG (fun W hx => (hUn W hx).1) (fun W hx => (hTi W hx).1) (fun W hx => (hTf W hx).1) (fun W hx => (hUn W hx).2) (fun W hx => (hTi W hx).2) (fun W hx => (hTf W hx).2)
end Go.Proofs.YtlhfemgimieooaaGreatDoor
