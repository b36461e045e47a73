/- Layer 15: an operator of one, ToInt and ToFloat of plain values: the program's. -/
import Derived.Test.YtlhfemgimieooaaGreatDoorPGPlQ
import Derived.Test.YtlhfemgimieooaaGreatDoorPGOf
import Derived.Test.YtlhfemgimieooaaGreatDoorPGPiJ
set_option linter.unusedVariables false
set_option linter.unusedSimpArgs false
set_option maxRecDepth 100000
set_option maxHeartbeats 4000000
namespace Go.Proofs.YtlhfemgimieooaaGreatDoor
open Go.Lib (hid)
open Go Go.ChangeShapes Go.WideShapes Go.ChangeAt Go.RowKit
theorem pre0 (w : World) (v0 v1 v2 v3 v4 v5 v6 : Value) : ∃ W1, w.alloc (.cells #[v0, v1, v2, v3, v4, v5, v6] 28) = W1 ∧ Hid (Below w.heap.size w W1) ∧ Hid (Bx7 W1 w.heap.size v0 v1 v2 v3 v4 v5 v6) :=
 ⟨_, rfl, (Below.refl _ _).alloc (Nat.le_refl _) _, Bx7.new w _ _ _ _ _ _ _ _ rfl⟩
theorem pre1 (w : World) (v0 v1 v2 v3 v4 v5 v6 : Value) : ∃ W1, (w.alloc (.cells #[v0, v1, v2, v3, v4, v5, v6] 28)).alloc (.cells #[.int .i64 0, .bool false, .bool false, .slice none 0 0, .int .u64 0, .string ⟨#[]⟩, .slice none 0 0] 28) = W1 ∧ Hid (Below w.heap.size w W1) ∧ Hid (Bx7 W1 w.heap.size v0 v1 v2 v3 v4 v5 v6) ∧ Hid (Bw7 W1 (w.heap.size + 1) (.int .i64 0) (.bool false) (.bool false) (.slice none 0 0) (.int .u64 0) (.string ⟨#[]⟩) (.slice none 0 0)) ∧ Hid (w.heap.size + 1 < W1.heap.size) :=
 ⟨_, rfl, ((Below.refl _ _).alloc (Nat.le_refl _) _).alloc (by simp) _, (Bx7.new w _ _ _ _ _ _ _ _ rfl).keep ((Below.refl _ _).alloc (Nat.le_refl _) _), Bw7.new _ _ _ _ _ _ _ _ _ (by simp), World.block_lt_of_cell? _ _ (Bw7.new _ _ _ _ _ _ _ _ _ (by simp)).b.c0⟩
theorem keepAll {w cur new : World} {A B : Nat} {v0 v1 v2 v3 v4 v5 v6 z0 z1 z2 z3 z4 z5 z6 u : Value} {ws : List Int} (h : Below cur.heap.size cur new) (h1 : Hid (Below w.heap.size w cur)) (h2 : Hid (Bx7 cur A v0 v1 v2 v3 v4 v5 v6)) (h3 : Hid (Bw7 cur B z0 z1 z2 z3 z4 z5 z6)) (h4 : Hid (Rd cur u ws)) : Hid (Below w.heap.size w new) ∧ Hid (Bx7 new A v0 v1 v2 v3 v4 v5 v6) ∧ Hid (Bw7 new B z0 z1 z2 z3 z4 z5 z6) ∧ Hid (Rd new u ws) ∧ Bx7 new A v0 v1 v2 v3 v4 v5 v6 :=
 ⟨h1.out.trans (h.mono h1.out.size), h2.out.keep h, h3.out.keep h, h4.out.keep h, h2.out.keep h⟩
theorem keepSome {w cur new : World} {A : Nat} {v0 v1 v2 v3 v4 v5 v6 u : Value} {ws : List Int} (h : Below cur.heap.size cur new) (h1 : Hid (Below w.heap.size w cur)) (h2 : Hid (Bx7 cur A v0 v1 v2 v3 v4 v5 v6)) (h4 : Hid (Rd cur u ws)) : Hid (Below w.heap.size w new) ∧ Hid (Bx7 new A v0 v1 v2 v3 v4 v5 v6) ∧ Hid (Rd new u ws) ∧ Bx7 new A v0 v1 v2 v3 v4 v5 v6 :=
 ⟨h1.out.trans (h.mono h1.out.size), h2.out.keep h, h4.out.keep h, h2.out.keep h⟩
theorem fin7 {w cur : World} {z0 z1 z2 z3 z4 z5 z6 : Value} (h : Hid (Bw7 cur (w.heap.size + 1) z0 z1 z2 z3 z4 z5 z6)) (h1 : Hid (Below w.heap.size w cur)) (v0 v1 v2 v3 v4 v5 v6 : Value) : Bx7 (put7 cur (w.heap.size + 1) v0 v1 v2 v3 v4 v5 v6) (w.heap.size + 1) v0 v1 v2 v3 v4 v5 v6 ∧ Below w.heap.size w (put7 cur (w.heap.size + 1) v0 v1 v2 v3 v4 v5 v6) :=
 ⟨put7_bx h.out.b _ _ _ _ _ _ _, put7_below h1.out (Nat.le_succ _) _ _ _ _ _ _ _⟩
theorem Rd.put7 {w : World} {B k : Nat} {u : Value} {ws : List Int} {a : Int} {y n : Bool} {q1 q2 : Option Addr} {l1 c1 l2 c2 : Nat} {b : Int} {s : ByteArray} (h : Rd w u ws) (hV : Bx7 w B (.int .i64 a) (.bool y) (.bool n) (.slice q1 l1 c1) (.int .u64 b) (.string s) (.slice q2 l2 c2)) (v0 v1 v2 v3 v5 v6 : Value) : Rd (put7 w B v0 v1 v2 v3 (.int .u64 b) v5 v6) u ws := by
 rcases h with h | ⟨g, off, cc, rfl, h1, h2, h3⟩
 · exact .inl h
 · refine .inr ⟨g, off, cc, rfl, h1, h2, fun i hi => ?_⟩
   have h4 := h3 i hi
   have e0 : (⟨B, 0, none⟩ : Addr) ≠ ⟨g, off + i, none⟩ := fun e => by rw [← e, hV.c0] at h4; simp at h4
   have e1 : (⟨B, 1, none⟩ : Addr) ≠ ⟨g, off + i, none⟩ := fun e => by rw [← e, hV.c1] at h4; simp at h4
   have e2 : (⟨B, 2, none⟩ : Addr) ≠ ⟨g, off + i, none⟩ := fun e => by rw [← e, hV.c2] at h4; simp at h4
   have e3 : (⟨B, 3, none⟩ : Addr) ≠ ⟨g, off + i, none⟩ := fun e => by rw [← e, hV.c3] at h4; simp at h4
   have e5 : (⟨B, 5, none⟩ : Addr) ≠ ⟨g, off + i, none⟩ := fun e => by rw [← e, hV.c5] at h4; simp at h4
   have e6 : (⟨B, 6, none⟩ : Addr) ≠ ⟨g, off + i, none⟩ := fun e => by rw [← e, hV.c6] at h4; simp at h4
   have h5 : ((((w.setCell ⟨B, 0, none⟩ v0).setCell ⟨B, 1, none⟩ v1).setCell ⟨B, 2, none⟩ v2).setCell ⟨B, 3, none⟩ v3).cell? ⟨g, off + i, none⟩ = Option.some (Value.int .u64 (ws.getD i 0)) :=
     (World.cell?_setCell_other _ _ _ _ e3).trans ((World.cell?_setCell_other _ _ _ _ e2).trans ((World.cell?_setCell_other _ _ _ _ e1).trans ((World.cell?_setCell_other _ _ _ _ e0).trans h4)))
   refine (World.cell?_setCell_other _ _ _ _ e6).trans ((World.cell?_setCell_other _ _ _ _ e5).trans ?_)
   by_cases he : (⟨B, 4, none⟩ : Addr) = ⟨g, off + i, none⟩
   · have hb : (Value.int .u64 b) = .int .u64 (ws.getD i 0) := by
       rw [← he, hV.c4] at h4
       exact Option.some.inj h4
     rw [← he] at h5 ⊢
     rw [← hb]
     exact World.cell?_setCell_same _ _ _ h5
   · exact (World.cell?_setCell_other _ _ _ _ he).trans h5
theorem own_any (n : Bool) (u : Value) (ws : List Int) (z : Int) (w : World) (hr : Rd w u ws) (hs : Sgn B18 n ws z) (hl : ws.length ≤ 30) :
   Calls Tryz.prog 31 #[.agg #[.bool n, u]] w (BigAt w w z) := by
 obtain ⟨p, c, rfl, hc, hwm, hp⟩ := rd_form hr
 obtain ⟨W1, hW1⟩ : ∃ x, (w.alloc (.cells #[.bool n, .slice p ws.length c] 24)).alloc (.cells #[.bool false, .slice none 0 0] 24) = x := ⟨_, rfl⟩
 have HB := hid (show Below w.heap.size w W1 by rw [← hW1]; exact ((Below.refl _ _).alloc (Nat.le_refl _) _).alloc (by simp) _)
 have HX := hid (show Box2 W1 w.heap.size (.bool n) (.slice p ws.length c) by rw [← hW1]; exact (Box2.new _ _ _ _ rfl).alloc _)
 have HV := hid (show Box2 W1 (w.heap.size + 1) (.bool false) (.slice none 0 0) by rw [← hW1]; exact Box2.new _ _ _ _ (by simp))
 have HR := hid (hr.keep HB.out)
 have HN := hid (fun (n : Bool) (u : Value) (ws : List Int) (z : Int) (W : World) (h1 : Rd W u ws) (h2 : Sgn B18 n ws z) (h3 : ws.length ≤ 30) => neg_at h1 h2 h3 (Below.refl W.heap.size W))
 have HS := hid hs
 have HL := hid hl
 clear hr hs hl hp
 have c0 := HX.out.c0
 have c1 := HX.out.c1
 go_enter Tryz.func31, Tryz.ntmps31
 go_wp2_with (first
   | (go_at_call 29; (try rw [hW1]); (with_reducible refine (HN.out _ _ ws z W1 HR.out HS.out HL.out).mono ?_); rintro e w2 ⟨n2, p2, c2, w2s, rfl, hR2, hS2, hvv, _⟩; replace HB := hid (HB.out.trans (hvv.mono HB.out.size)); replace HV := hid (HV.out.keep hvv); have HL2 := hid (hS2.small.2 (HS.out.small.1 HL.out).neg); have HR2 := hid hR2; have HS2 := hid hS2; clear hvv hR2 hS2)
   | (go_at_call 29; (with_reducible refine (HN.out _ _ w2s (-z) w2 HR2.out HS2.out HL2.out).mono ?_); rintro e w3 ⟨n3, p3, c3, w3s, rfl, hR3, hS3, hvv, _⟩; replace HB := hid (HB.out.trans (hvv.mono HB.out.size)); replace HV := hid (HV.out.keep hvv); have d0 := HV.out.c0; have d1 := HV.out.c1; have df0 := HV.out.f0; have df1 := HV.out.f1; have HR3 := hid hR3; have HS3 := hid hS3; clear hvv hR3 hS3)
   | fail)
 have z2 := two_setW (x0 := .bool n3) (x1 := .slice p3 w3s.length c3) HV.out.c0 HV.out.c1
 have hbz := (HB.out.setCell (show w.heap.size ≤ w.heap.size + 1 by omega) (.bool n3) (p := ⟨w.heap.size + 1, 0, none⟩)).setCell (show w.heap.size ≤ w.heap.size + 1 by omega) (.slice p3 w3s.length c3) (p := ⟨w.heap.size + 1, 1, none⟩)
 refine bodyPost_ret (v := .agg #[.bool n3, .slice p3 w3s.length c3]) (by simp [results, Tryz.results31, go_sem, z2.1, z2.2]) rfl ⟨n3, p3, c3, w3s, rfl, HR3.out.putN HV.out _ _, by have := HS3.out; rwa [Int.neg_neg] at this, hbz, hbz⟩
theorem toFloat_f (y n : Bool) (u : Value) (ws : List Int) (b : Nat) (s : ByteArray) (ip : Option Addr) (m ic : Nat) (w : World) (hb : b < 18446744073709551616) (hr : Rd w u ws) (hf : Fit ws) (hm : (m : Int) ≤ 9223372036854775807) (hs : (s.size : Int) ≤ 9223372036854775807) :
   Calls Tryz.prog 27 #[.agg #[.int .i64 3, .bool y, .bool n, u, .int .u64 (b : Int), .string s, .slice ip m ic]] w fun e w' => e = .returned (.tuple #[.int .u64 (patB b : Nat), .int .i64 0]) ∧ Below w.heap.size w w' := by
 obtain ⟨p, c, rfl, hc, hwm, hp⟩ := rd_form hr
 obtain ⟨W1, hW1, HB, HXA⟩ := pre0 w (.int .i64 3) (.bool y) (.bool n) (.slice p ws.length c) (.int .u64 (b : Int)) (.string s) (.slice ip m ic)
 have HR := hid (hr.keep HB.out)
 have HN := hid (fun (b : Nat) (hb : b < 18446744073709551616) (W : World) => neg_any b hb W)
 have HB1 := hid hb
 have HB2 := hid (show negV b < 18446744073709551616 from by unfold negV; exact patB_lt (by unfold flipB; split <;> (simp only [fSG] at *; omega)))
 have HE := hid (negneg hb)
 clear hr hf hp hb hm hs
 obtain ⟨a0, a1, a2, a3, a4, a5, a6⟩ := HXA.out
 go_enter Tryz.func27, Tryz.ntmps27
 go_wp2_with (first
   | (go_at_call 26; (try rw [hW1]); (with_reducible refine (HN.out b HB1.out _).mono ?_); rintro e w9 ⟨rfl, rfl⟩)
   | (go_at_call 26; (with_reducible refine (HN.out (negV b) HB2.out _).mono ?_); rintro e w9 ⟨rfl, rfl⟩)
   | fail)
 go_ret2
 exact ⟨by rw [HE.out]; rfl, HB.out⟩
def OFH (z : Int) (B : Nat) (X : Int) (W0 : World) : Prop := ∀ W, Below W0.heap.size W0 W → ∀ (n : Bool) (u : Value) (xs : List Int), Sgn B18 n xs z → Rd W u xs → Calls Tryz.prog 63 #[.agg #[.bool n, u]] W (OfR B X W) ∧ Calls Tryz.prog 84 #[.agg #[.bool n, u]] W (OfR B X W)
theorem OFH.keep {z : Int} {B : Nat} {X : Int} {w w' : World} (h : OFH z B X w) (hb : Below w.heap.size w w') : OFH z B X w' := fun W hx => h W (hb.trans (hx.mono hb.size))
theorem ofh_any {hiT loT T : Nat → Nat} (hft : TBF hiT loT T) (h3 : hiT 348 = 9223372036854775808) (h4 : loT 348 = 0) (tv : TypeId) (yv : Value) (n0 : Bool) (xs0 : List Int) (z : Int) (hs0 : Sgn B18 n0 xs0 z) : ∃ B X, (patB B = B ∧ B < 18446744073709551616) ∧ ∀ w, P10R w → PFT hiT loT T tv yv w w.heap.size → OFH z B X w := by
 obtain ⟨B, X, hBB, h⟩ := of_twoX hft h3 h4 tv yv n0 xs0 hs0.canon.fit
 refine ⟨B, X, hBB, fun w hP hT W hx n u xs hs hr => ?_⟩
 obtain ⟨rfl, rfl⟩ := hs.uniq (by decide) hs0
 exact h u W hr (hP.keep hx) ((hT.keep hx).up hx.size)
theorem toFloat_w (k : Int) (y n : Bool) (u : Value) (ws : List Int) (b : Nat) (s : ByteArray) (ip : Option Addr) (m ic : Nat) (w : World) (hb : b < 18446744073709551616) (hr : Rd w u ws) (hf : Fit ws) (hm : (m : Int) ≤ 9223372036854775807) (hs : (s.size : Int) ≤ 9223372036854775807) (hk : k = 1 ∨ k = 2) (hg : goodP k y n ws b s m = true) {B0 : Nat} {X0 : Int} (ho : OFH (zP k y n ws) B0 X0 w) :
   Calls Tryz.prog 27 #[.agg #[.int .i64 k, .bool y, .bool n, u, .int .u64 (b : Int), .string s, .slice ip m ic]] w (OfR B0 X0 w) := by
 obtain ⟨p, c, rfl, hc, hwm, hp⟩ := rd_form hr
 obtain ⟨W1, hW1, HB, HXA⟩ := pre0 w (.int .i64 k) (.bool y) (.bool n) (.slice p ws.length c) (.int .u64 (b : Int)) (.string s) (.slice ip m ic)
 have HR := hid (hr.keep HB.out)
 have HT := hid (fun (W : World) (hx : Rd W (.slice p ws.length c) ws) => toBig_any k y n _ ws b s (.slice ip m ic) W hx hf (good_k2 hg))
 have HO := hid (ho.keep HB.out)
 have q3 : (k == 3) = false := by rcases hk with rfl | rfl <;> rfl
 clear hr hf hp hg ho hk hb hm hs
 obtain ⟨a0, a1, a2, a3, a4, a5, a6⟩ := HXA.out
 go_enter Tryz.func27, Tryz.ntmps27
 go_wp2_with (first
   | (go_at_call 30; (try rw [hW1]); (with_reducible refine (HT.out _ HR.out).mono ?_); rintro e vn ⟨nr, pr, cr, wr, rfl, hRr, hSr, hLr, hvv⟩; obtain ⟨HB, HXA, HR, a0, a1, a2, a3, a4, a5, a6⟩ := keepSome hvv HB HXA HR; replace HO := hid (HO.out.keep hvv); have HRr := hid hRr; have HSr := hid hSr; clear hRr hSr hLr; clear hvv)
   | (go_at_call 63; have hof := (HO.out _ (Below.refl _ _) _ _ _ HSr.out HRr.out).1; (with_reducible refine hof.mono ?_); rintro e v3 ⟨rfl, hvv⟩; replace HB := hid (HB.out.trans (hvv.mono HB.out.size)); clear hvv)
   | fail)
 go_ret2
 exact ⟨rfl, HB.out⟩
theorem un_bad (op : Int) (k : Int) (y n : Bool) (u : Value) (ws : List Int) (b : Nat) (s : ByteArray) (ip : Option Addr) (m ic : Nat) (w : World) (hb : b < 18446744073709551616) (hr : Rd w u ws) (hf : Fit ws) (hm : (m : Int) ≤ 9223372036854775807) (hs : (s.size : Int) ≤ 9223372036854775807) (hg : goodP k y n ws b s m = false) :
   Calls Tryz.prog 5 #[.int .i64 op, .agg #[.int .i64 k, .bool y, .bool n, u, .int .u64 (b : Int), .string s, .slice ip m ic]] w (ValP 0 0 0 3 w) := by
 obtain ⟨p, c, rfl, hc, hwm, hp⟩ := rd_form hr
 obtain ⟨W1, hW1, HB, HXA, HV, HLT⟩ := pre1 w (.int .i64 k) (.bool y) (.bool n) (.slice p ws.length c) (.int .u64 (b : Int)) (.string s) (.slice ip m ic)
 have HR := hid (hr.keep HB.out)
 have HG := hid (fun (W : World) (hx : Rd W (.slice p ws.length c) ws) => good15_any k y n _ ws b s ip m ic W hb hx hf hm hs)
 rw [hg] at HG
 clear hr hf hp hb hm hs hg
 obtain ⟨a0, a1, a2, a3, a4, a5, a6⟩ := HXA.out
 go_enter Tryz.func5, Tryz.ntmps5
 go_wp2_with (first
   | (go_at_call 23; (try rw [hW1]); (with_reducible refine (HG.out _ HR.out).mono ?_); rintro e vn ⟨rfl, hvv⟩; obtain ⟨HB, HXA, HV, HR, a0, a1, a2, a3, a4, a5, a6⟩ := keepAll hvv HB HXA HV HR; obtain ⟨⟨vc0, vc1, vc2, vc3, vc4, vc5, vc6⟩, vf0, vf1, vf2, vf3, vf4, vf5, vf6⟩ := HV.out; clear hvv)
   | fail)
 obtain ⟨z7, zb⟩ := fin7 HV HB (.int .i64 0) (.bool false) (.bool false) (.slice none 0 0) (.int .u64 0) (.string ⟨#[]⟩) (.slice none 0 0)
 unfold put7 at z7 zb
 exact bodyPost_ret (v := .tuple #[.agg #[.int .i64 0, .bool false, .bool false, .slice none 0 0, .int .u64 0, .string ⟨#[]⟩, .slice none 0 0], .int .i64 3]) (by simp [results, Tryz.results5, go_sem, z7.c0, z7.c1, z7.c2, z7.c3, z7.c4, z7.c5, z7.c6]) rfl (ValP.none zb)
theorem un_kind (op : Int) (k : Int) (y n : Bool) (u : Value) (ws : List Int) (b : Nat) (s : ByteArray) (ip : Option Addr) (m ic : Nat) (w : World) (hb : b < 18446744073709551616) (hr : Rd w u ws) (hf : Fit ws) (hm : (m : Int) ≤ 9223372036854775807) (hs : (s.size : Int) ≤ 9223372036854775807) (hg : goodP k y n ws b s m = true) (hq : numP k = false) :
   Calls Tryz.prog 5 #[.int .i64 op, .agg #[.int .i64 k, .bool y, .bool n, u, .int .u64 (b : Int), .string s, .slice ip m ic]] w (ValP 0 0 0 9 w) := by
 obtain ⟨p, c, rfl, hc, hwm, hp⟩ := rd_form hr
 obtain ⟨W1, hW1, HB, HXA, HV, HLT⟩ := pre1 w (.int .i64 k) (.bool y) (.bool n) (.slice p ws.length c) (.int .u64 (b : Int)) (.string s) (.slice ip m ic)
 have HR := hid (hr.keep HB.out)
 have HG := hid (fun (W : World) (hx : Rd W (.slice p ws.length c) ws) => good15_any k y n _ ws b s ip m ic W hb hx hf hm hs)
 rw [hg] at HG
 have HN := hid (fun (W : World) => isNumber_any k y n (.slice p ws.length c) b s (.slice ip m ic) W)
 rw [show numP k = false from hq] at HN
 clear hr hf hp hb hm hs hg hq
 obtain ⟨a0, a1, a2, a3, a4, a5, a6⟩ := HXA.out
 go_enter Tryz.func5, Tryz.ntmps5
 go_wp2_with (first
   | (go_at_call 23; (try rw [hW1]); (with_reducible refine (HG.out _ HR.out).mono ?_); rintro e vn ⟨rfl, hvv⟩; obtain ⟨HB, HXA, HV, HR, a0, a1, a2, a3, a4, a5, a6⟩ := keepAll hvv HB HXA HV HR; clear hvv)
   | (go_at_call 24; (try rw [hW1]); (with_reducible refine (HN.out _).mono ?_); rintro e vn ⟨rfl, hvv⟩; obtain ⟨HB, HXA, HV, HR, a0, a1, a2, a3, a4, a5, a6⟩ := keepAll hvv HB HXA HV HR; obtain ⟨⟨vc0, vc1, vc2, vc3, vc4, vc5, vc6⟩, vf0, vf1, vf2, vf3, vf4, vf5, vf6⟩ := HV.out; clear hvv)
   | fail)
 obtain ⟨z7, zb⟩ := fin7 HV HB (.int .i64 0) (.bool false) (.bool false) (.slice none 0 0) (.int .u64 0) (.string ⟨#[]⟩) (.slice none 0 0)
 unfold put7 at z7 zb
 exact bodyPost_ret (v := .tuple #[.agg #[.int .i64 0, .bool false, .bool false, .slice none 0 0, .int .u64 0, .string ⟨#[]⟩, .slice none 0 0], .int .i64 9]) (by simp [results, Tryz.results5, go_sem, z7.c0, z7.c1, z7.c2, z7.c3, z7.c4, z7.c5, z7.c6]) rfl (ValP.none zb)
theorem un_op (op : Int) (k : Int) (y n : Bool) (u : Value) (ws : List Int) (b : Nat) (s : ByteArray) (ip : Option Addr) (m ic : Nat) (w : World) (hb : b < 18446744073709551616) (hr : Rd w u ws) (hf : Fit ws) (hm : (m : Int) ≤ 9223372036854775807) (hs : (s.size : Int) ≤ 9223372036854775807) (hg : goodP k y n ws b s m = true) (hq : numP k = true) (h1 : op ≠ 1) (h2 : op ≠ 2) :
   Calls Tryz.prog 5 #[.int .i64 op, .agg #[.int .i64 k, .bool y, .bool n, u, .int .u64 (b : Int), .string s, .slice ip m ic]] w (ValP 0 0 0 9 w) := by
 obtain ⟨p, c, rfl, hc, hwm, hp⟩ := rd_form hr
 obtain ⟨W1, hW1, HB, HXA, HV, HLT⟩ := pre1 w (.int .i64 k) (.bool y) (.bool n) (.slice p ws.length c) (.int .u64 (b : Int)) (.string s) (.slice ip m ic)
 have HR := hid (hr.keep HB.out)
 have HG := hid (fun (W : World) (hx : Rd W (.slice p ws.length c) ws) => good15_any k y n _ ws b s ip m ic W hb hx hf hm hs)
 rw [hg] at HG
 have HN := hid (fun (W : World) => isNumber_any k y n (.slice p ws.length c) b s (.slice ip m ic) W)
 rw [show numP k = true from hq] at HN
 have q1 : (op != 1) = true := by simpa using h1
 have q2 : (op != 2) = true := by simpa using h2
 clear hr hf hp hb hm hs hg hq h1 h2
 obtain ⟨a0, a1, a2, a3, a4, a5, a6⟩ := HXA.out
 go_enter Tryz.func5, Tryz.ntmps5
 go_wp2_with (first
   | (go_at_call 23; (try rw [hW1]); (with_reducible refine (HG.out _ HR.out).mono ?_); rintro e vn ⟨rfl, hvv⟩; obtain ⟨HB, HXA, HV, HR, a0, a1, a2, a3, a4, a5, a6⟩ := keepAll hvv HB HXA HV HR; clear hvv)
   | (go_at_call 24; (try rw [hW1]); (with_reducible refine (HN.out _).mono ?_); rintro e vn ⟨rfl, hvv⟩; obtain ⟨HB, HXA, HV, HR, a0, a1, a2, a3, a4, a5, a6⟩ := keepAll hvv HB HXA HV HR; obtain ⟨⟨vc0, vc1, vc2, vc3, vc4, vc5, vc6⟩, vf0, vf1, vf2, vf3, vf4, vf5, vf6⟩ := HV.out; clear hvv)
   | fail)
 obtain ⟨z7, zb⟩ := fin7 HV HB (.int .i64 0) (.bool false) (.bool false) (.slice none 0 0) (.int .u64 0) (.string ⟨#[]⟩) (.slice none 0 0)
 unfold put7 at z7 zb
 exact bodyPost_ret (v := .tuple #[.agg #[.int .i64 0, .bool false, .bool false, .slice none 0 0, .int .u64 0, .string ⟨#[]⟩, .slice none 0 0], .int .i64 9]) (by simp [results, Tryz.results5, go_sem, z7.c0, z7.c1, z7.c2, z7.c3, z7.c4, z7.c5, z7.c6]) rfl (ValP.none zb)
theorem un_fneg (y n : Bool) (u : Value) (ws : List Int) (b : Nat) (s : ByteArray) (ip : Option Addr) (m ic : Nat) (w : World) (hb : b < 18446744073709551616) (hr : Rd w u ws) (hf : Fit ws) (hm : (m : Int) ≤ 9223372036854775807) (hs : (s.size : Int) ≤ 9223372036854775807) (hg : goodP 3 y n ws b s m = true) :
   Calls Tryz.prog 5 #[.int .i64 1, .agg #[.int .i64 3, .bool y, .bool n, u, .int .u64 (b : Int), .string s, .slice ip m ic]] w (ValP 3 0 (negV b) 0 w) := by
 obtain ⟨p, c, rfl, hc, hwm, hp⟩ := rd_form hr
 obtain ⟨W1, hW1, HB, HXA, HV, HLT⟩ := pre1 w (.int .i64 3) (.bool y) (.bool n) (.slice p ws.length c) (.int .u64 (b : Int)) (.string s) (.slice ip m ic)
 have HR := hid (hr.keep HB.out)
 have HG := hid (fun (W : World) (hx : Rd W (.slice p ws.length c) ws) => good15_any 3 y n _ ws b s ip m ic W hb hx hf hm hs)
 rw [hg] at HG
 have HN := hid (fun (W : World) => isNumber_any 3 y n (.slice p ws.length c) b s (.slice ip m ic) W)
 rw [show numP 3 = true from (by decide)] at HN
 have HF := hid (fun (W : World) => neg_any b hb W)
 clear hr hf hp hb hm hs hg
 obtain ⟨a0, a1, a2, a3, a4, a5, a6⟩ := HXA.out
 go_enter Tryz.func5, Tryz.ntmps5
 go_wp2_with (first
   | (go_at_call 23; (try rw [hW1]); (with_reducible refine (HG.out _ HR.out).mono ?_); rintro e vn ⟨rfl, hvv⟩; obtain ⟨HB, HXA, HV, HR, a0, a1, a2, a3, a4, a5, a6⟩ := keepAll hvv HB HXA HV HR; clear hvv)
   | (go_at_call 24; (try rw [hW1]); (with_reducible refine (HN.out _).mono ?_); rintro e vn ⟨rfl, hvv⟩; obtain ⟨HB, HXA, HV, HR, a0, a1, a2, a3, a4, a5, a6⟩ := keepAll hvv HB HXA HV HR; clear hvv)
   | (go_at_call 26; (with_reducible refine (HF.out _).mono ?_); rintro e w9 ⟨rfl, rfl⟩)
   | (go_at_call 25; (try rw [hW1]); (with_reducible refine (floats_ok (negV b) _).mono ?_); rintro e vn ⟨rfl, hvv⟩; obtain ⟨HB, HXA, HV, HR, a0, a1, a2, a3, a4, a5, a6⟩ := keepAll hvv HB HXA HV HR; obtain ⟨⟨vc0, vc1, vc2, vc3, vc4, vc5, vc6⟩, vf0, vf1, vf2, vf3, vf4, vf5, vf6⟩ := HV.out; clear hvv)
   | fail)
 obtain ⟨z7, zb⟩ := fin7 HV HB (.int .i64 3) (.bool false) (.bool false) (.slice none 0 0) (.int .u64 ((negV b : Nat) : Int)) (.string ⟨#[]⟩) (.slice none 0 0)
 unfold put7 at z7 zb
 exact bodyPost_ret (v := .tuple #[.agg #[.int .i64 3, .bool false, .bool false, .slice none 0 0, .int .u64 ((negV b : Nat) : Int), .string ⟨#[]⟩, .slice none 0 0], .int .i64 0]) (by simp [results, Tryz.results5, go_sem, z7.c0, z7.c1, z7.c2, z7.c3, z7.c4, z7.c5, z7.c6]) rfl (ValP.none zb)
theorem un_fpos (y n : Bool) (u : Value) (ws : List Int) (b : Nat) (s : ByteArray) (ip : Option Addr) (m ic : Nat) (w : World) (hb : b < 18446744073709551616) (hr : Rd w u ws) (hf : Fit ws) (hm : (m : Int) ≤ 9223372036854775807) (hs : (s.size : Int) ≤ 9223372036854775807) (hg : goodP 3 y n ws b s m = true) :
   Calls Tryz.prog 5 #[.int .i64 2, .agg #[.int .i64 3, .bool y, .bool n, u, .int .u64 (b : Int), .string s, .slice ip m ic]] w (ValP 3 0 (patB b) 0 w) := by
 obtain ⟨p, c, rfl, hc, hwm, hp⟩ := rd_form hr
 obtain ⟨W1, hW1, HB, HXA, HV, HLT⟩ := pre1 w (.int .i64 3) (.bool y) (.bool n) (.slice p ws.length c) (.int .u64 (b : Int)) (.string s) (.slice ip m ic)
 have HR := hid (hr.keep HB.out)
 have HG := hid (fun (W : World) (hx : Rd W (.slice p ws.length c) ws) => good15_any 3 y n _ ws b s ip m ic W hb hx hf hm hs)
 rw [hg] at HG
 have HN := hid (fun (W : World) => isNumber_any 3 y n (.slice p ws.length c) b s (.slice ip m ic) W)
 rw [show numP 3 = true from (by decide)] at HN
 have HF := hid (fun (W : World) (hx : Rd W (.slice p ws.length c) ws) => toFloat_f y n _ ws b s ip m ic W hb hx hf hm hs)
 clear hr hf hp hb hm hs hg
 obtain ⟨a0, a1, a2, a3, a4, a5, a6⟩ := HXA.out
 go_enter Tryz.func5, Tryz.ntmps5
 go_wp2_with (first
   | (go_at_call 23; (try rw [hW1]); (with_reducible refine (HG.out _ HR.out).mono ?_); rintro e vn ⟨rfl, hvv⟩; obtain ⟨HB, HXA, HV, HR, a0, a1, a2, a3, a4, a5, a6⟩ := keepAll hvv HB HXA HV HR; clear hvv)
   | (go_at_call 24; (try rw [hW1]); (with_reducible refine (HN.out _).mono ?_); rintro e vn ⟨rfl, hvv⟩; obtain ⟨HB, HXA, HV, HR, a0, a1, a2, a3, a4, a5, a6⟩ := keepAll hvv HB HXA HV HR; clear hvv)
   | (go_at_call 27; (try rw [hW1]); (with_reducible refine (HF.out _ HR.out).mono ?_); rintro e vn ⟨rfl, hvv⟩; obtain ⟨HB, HXA, HV, HR, a0, a1, a2, a3, a4, a5, a6⟩ := keepAll hvv HB HXA HV HR; clear hvv)
   | (go_at_call 25; (try rw [hW1]); (with_reducible refine (floats_ok (patB b) _).mono ?_); rintro e vn ⟨rfl, hvv⟩; obtain ⟨HB, HXA, HV, HR, a0, a1, a2, a3, a4, a5, a6⟩ := keepAll hvv HB HXA HV HR; obtain ⟨⟨vc0, vc1, vc2, vc3, vc4, vc5, vc6⟩, vf0, vf1, vf2, vf3, vf4, vf5, vf6⟩ := HV.out; clear hvv)
   | fail)
 obtain ⟨z7, zb⟩ := fin7 HV HB (.int .i64 3) (.bool false) (.bool false) (.slice none 0 0) (.int .u64 ((patB b : Nat) : Int)) (.string ⟨#[]⟩) (.slice none 0 0)
 unfold put7 at z7 zb
 exact bodyPost_ret (v := .tuple #[.agg #[.int .i64 3, .bool false, .bool false, .slice none 0 0, .int .u64 ((patB b : Nat) : Int), .string ⟨#[]⟩, .slice none 0 0], .int .i64 0]) (by simp [results, Tryz.results5, go_sem, z7.c0, z7.c1, z7.c2, z7.c3, z7.c4, z7.c5, z7.c6]) rfl (ValP.none zb)
theorem un_wneg (k : Int) (y n : Bool) (u : Value) (ws : List Int) (b : Nat) (s : ByteArray) (ip : Option Addr) (m ic : Nat) (w : World) (hb : b < 18446744073709551616) (hr : Rd w u ws) (hf : Fit ws) (hm : (m : Int) ≤ 9223372036854775807) (hs : (s.size : Int) ≤ 9223372036854775807) (hk : k = 1 ∨ k = 2) (hg : goodP k y n ws b s m = true) :
   Calls Tryz.prog 5 #[.int .i64 1, .agg #[.int .i64 k, .bool y, .bool n, u, .int .u64 (b : Int), .string s, .slice ip m ic]] w (ValP 2 (-(zP k y n ws)) 0 0 w) := by
 obtain ⟨p, c, rfl, hc, hwm, hp⟩ := rd_form hr
 obtain ⟨W1, hW1, HB, HXA, HV, HLT⟩ := pre1 w (.int .i64 k) (.bool y) (.bool n) (.slice p ws.length c) (.int .u64 (b : Int)) (.string s) (.slice ip m ic)
 have HR := hid (hr.keep HB.out)
 have HT := hid (fun (W : World) (hx : Rd W (.slice p ws.length c) ws) => toBig_any k y n _ ws b s (.slice ip m ic) W hx hf (good_k2 hg))
 have HG := hid (fun (W : World) (hx : Rd W (.slice p ws.length c) ws) => good15_any k y n _ ws b s ip m ic W hb hx hf hm hs)
 rw [hg] at HG
 have HN := hid (fun (W : World) => isNumber_any k y n (.slice p ws.length c) b s (.slice ip m ic) W)
 rw [show numP k = true from (by rcases hk with rfl | rfl <;> rfl)] at HN
 have q3 : (k == 3) = false := by rcases hk with rfl | rfl <;> rfl
 clear hr hf hp hb hm hs hg hk
 obtain ⟨a0, a1, a2, a3, a4, a5, a6⟩ := HXA.out
 go_enter Tryz.func5, Tryz.ntmps5
 go_wp2_with (first
   | (go_at_call 23; (try rw [hW1]); (with_reducible refine (HG.out _ HR.out).mono ?_); rintro e vn ⟨rfl, hvv⟩; obtain ⟨HB, HXA, HV, HR, a0, a1, a2, a3, a4, a5, a6⟩ := keepAll hvv HB HXA HV HR; clear hvv)
   | (go_at_call 24; (try rw [hW1]); (with_reducible refine (HN.out _).mono ?_); rintro e vn ⟨rfl, hvv⟩; obtain ⟨HB, HXA, HV, HR, a0, a1, a2, a3, a4, a5, a6⟩ := keepAll hvv HB HXA HV HR; clear hvv)
   | (go_at_call 30; (try rw [hW1]); (with_reducible refine (HT.out _ HR.out).mono ?_); rintro e vn ⟨nb, pb, cb, wb, rfl, hRb, hSb, hLb, hvv⟩; obtain ⟨HB, HXA, HV, HR, a0, a1, a2, a3, a4, a5, a6⟩ := keepAll hvv HB HXA HV HR; have HRb := hid hRb; have HSb := hid hSb; have HLb := hid hLb; clear hRb hSb hLb; clear hvv)
   | (go_at_call 29; (try rw [hW1]); (with_reducible refine (neg_at HRb.out HSb.out HLb.out (Below.refl _ _)).mono ?_); rintro e vn ⟨nr, pr, cr, wr, rfl, hRr, hSr, hvv, _⟩; obtain ⟨HB, HXA, HV, HR, a0, a1, a2, a3, a4, a5, a6⟩ := keepAll hvv HB HXA HV HR; have HRr := hid hRr; have HSr := hid hSr; clear hRr hSr; clear hvv)
   | (go_at_call 28; (try rw [hW1]); (with_reducible refine (ints_ok nr pr wr.length cr _).mono ?_); rintro e vn ⟨rfl, hvv⟩; obtain ⟨HB, HXA, HV, HR, a0, a1, a2, a3, a4, a5, a6⟩ := keepAll hvv HB HXA HV HR; replace HRr := hid (HRr.out.keep hvv); obtain ⟨⟨vc0, vc1, vc2, vc3, vc4, vc5, vc6⟩, vf0, vf1, vf2, vf3, vf4, vf5, vf6⟩ := HV.out; clear hvv)
   | fail)
 obtain ⟨z7, zb⟩ := fin7 HV HB (.int .i64 2) (.bool false) (.bool nr) (.slice pr wr.length cr) (.int .u64 0) (.string ⟨#[]⟩) (.slice none 0 0)
 have zr := HRr.out.put7 (k := 0) HV.out.b (.int .i64 2) (.bool false) (.bool nr) (.slice pr wr.length cr) (.string ⟨#[]⟩) (.slice none 0 0)
 unfold put7 at z7 zb zr
 exact bodyPost_ret (v := .tuple #[.agg #[.int .i64 2, .bool false, .bool nr, .slice pr wr.length cr, .int .u64 0, .string ⟨#[]⟩, .slice none 0 0], .int .i64 0]) (by simp [results, Tryz.results5, go_sem, z7.c0, z7.c1, z7.c2, z7.c3, z7.c4, z7.c5, z7.c6]) rfl ⟨nr, pr, cr, wr, rfl, zr, HSr.out, zb⟩
theorem un_wpos (k : Int) (y n : Bool) (u : Value) (ws : List Int) (b : Nat) (s : ByteArray) (ip : Option Addr) (m ic : Nat) (w : World) (hb : b < 18446744073709551616) (hr : Rd w u ws) (hf : Fit ws) (hm : (m : Int) ≤ 9223372036854775807) (hs : (s.size : Int) ≤ 9223372036854775807) (hk : k = 1 ∨ k = 2) (hg : goodP k y n ws b s m = true) :
   Calls Tryz.prog 5 #[.int .i64 2, .agg #[.int .i64 k, .bool y, .bool n, u, .int .u64 (b : Int), .string s, .slice ip m ic]] w (ValP 2 (zP k y n ws) 0 0 w) := by
 obtain ⟨p, c, rfl, hc, hwm, hp⟩ := rd_form hr
 obtain ⟨W1, hW1, HB, HXA, HV, HLT⟩ := pre1 w (.int .i64 k) (.bool y) (.bool n) (.slice p ws.length c) (.int .u64 (b : Int)) (.string s) (.slice ip m ic)
 have HR := hid (hr.keep HB.out)
 have HT := hid (fun (W : World) (hx : Rd W (.slice p ws.length c) ws) => toBig_any k y n _ ws b s (.slice ip m ic) W hx hf (good_k2 hg))
 have HG := hid (fun (W : World) (hx : Rd W (.slice p ws.length c) ws) => good15_any k y n _ ws b s ip m ic W hb hx hf hm hs)
 rw [hg] at HG
 have HN := hid (fun (W : World) => isNumber_any k y n (.slice p ws.length c) b s (.slice ip m ic) W)
 rw [show numP k = true from (by rcases hk with rfl | rfl <;> rfl)] at HN
 have q3 : (k == 3) = false := by rcases hk with rfl | rfl <;> rfl
 clear hr hf hp hb hm hs hg hk
 obtain ⟨a0, a1, a2, a3, a4, a5, a6⟩ := HXA.out
 go_enter Tryz.func5, Tryz.ntmps5
 go_wp2_with (first
   | (go_at_call 23; (try rw [hW1]); (with_reducible refine (HG.out _ HR.out).mono ?_); rintro e vn ⟨rfl, hvv⟩; obtain ⟨HB, HXA, HV, HR, a0, a1, a2, a3, a4, a5, a6⟩ := keepAll hvv HB HXA HV HR; clear hvv)
   | (go_at_call 24; (try rw [hW1]); (with_reducible refine (HN.out _).mono ?_); rintro e vn ⟨rfl, hvv⟩; obtain ⟨HB, HXA, HV, HR, a0, a1, a2, a3, a4, a5, a6⟩ := keepAll hvv HB HXA HV HR; clear hvv)
   | (go_at_call 30; (try rw [hW1]); (with_reducible refine (HT.out _ HR.out).mono ?_); rintro e vn ⟨nb, pb, cb, wb, rfl, hRb, hSb, hLb, hvv⟩; obtain ⟨HB, HXA, HV, HR, a0, a1, a2, a3, a4, a5, a6⟩ := keepAll hvv HB HXA HV HR; have HRb := hid hRb; have HSb := hid hSb; have HLb := hid hLb; clear hRb hSb hLb; clear hvv)
   | (go_at_call 31; (try rw [hW1]); (with_reducible refine (own_any nb _ wb _ _ HRb.out HSb.out HLb.out).mono ?_); rintro e vn ⟨nr, pr, cr, wr, rfl, hRr, hSr, hvv, _⟩; obtain ⟨HB, HXA, HV, HR, a0, a1, a2, a3, a4, a5, a6⟩ := keepAll hvv HB HXA HV HR; have HRr := hid hRr; have HSr := hid hSr; clear hRr hSr; clear hvv)
   | (go_at_call 28; (try rw [hW1]); (with_reducible refine (ints_ok nr pr wr.length cr _).mono ?_); rintro e vn ⟨rfl, hvv⟩; obtain ⟨HB, HXA, HV, HR, a0, a1, a2, a3, a4, a5, a6⟩ := keepAll hvv HB HXA HV HR; replace HRr := hid (HRr.out.keep hvv); obtain ⟨⟨vc0, vc1, vc2, vc3, vc4, vc5, vc6⟩, vf0, vf1, vf2, vf3, vf4, vf5, vf6⟩ := HV.out; clear hvv)
   | fail)
 obtain ⟨z7, zb⟩ := fin7 HV HB (.int .i64 2) (.bool false) (.bool nr) (.slice pr wr.length cr) (.int .u64 0) (.string ⟨#[]⟩) (.slice none 0 0)
 have zr := HRr.out.put7 (k := 0) HV.out.b (.int .i64 2) (.bool false) (.bool nr) (.slice pr wr.length cr) (.string ⟨#[]⟩) (.slice none 0 0)
 unfold put7 at z7 zb zr
 exact bodyPost_ret (v := .tuple #[.agg #[.int .i64 2, .bool false, .bool nr, .slice pr wr.length cr, .int .u64 0, .string ⟨#[]⟩, .slice none 0 0], .int .i64 0]) (by simp [results, Tryz.results5, go_sem, z7.c0, z7.c1, z7.c2, z7.c3, z7.c4, z7.c5, z7.c6]) rfl ⟨nr, pr, cr, wr, rfl, zr, HSr.out, zb⟩
theorem ti_bad (k : Int) (y n : Bool) (u : Value) (ws : List Int) (b : Nat) (s : ByteArray) (ip : Option Addr) (m ic : Nat) (w : World) (hb : b < 18446744073709551616) (hr : Rd w u ws) (hf : Fit ws) (hm : (m : Int) ≤ 9223372036854775807) (hs : (s.size : Int) ≤ 9223372036854775807) (hg : goodP k y n ws b s m = false) :
   Calls Tryz.prog 6 #[.agg #[.int .i64 k, .bool y, .bool n, u, .int .u64 (b : Int), .string s, .slice ip m ic]] w (ValP 0 0 0 3 w) := by
 obtain ⟨p, c, rfl, hc, hwm, hp⟩ := rd_form hr
 obtain ⟨W1, hW1, HB, HXA, HV, HLT⟩ := pre1 w (.int .i64 k) (.bool y) (.bool n) (.slice p ws.length c) (.int .u64 (b : Int)) (.string s) (.slice ip m ic)
 have HR := hid (hr.keep HB.out)
 have HG := hid (fun (W : World) (hx : Rd W (.slice p ws.length c) ws) => good15_any k y n _ ws b s ip m ic W hb hx hf hm hs)
 rw [hg] at HG
 clear hr hf hp hb hm hs hg
 obtain ⟨a0, a1, a2, a3, a4, a5, a6⟩ := HXA.out
 go_enter Tryz.func6, Tryz.ntmps6
 go_wp2_with (first
   | (go_at_call 23; (try rw [hW1]); (with_reducible refine (HG.out _ HR.out).mono ?_); rintro e vn ⟨rfl, hvv⟩; obtain ⟨HB, HXA, HV, HR, a0, a1, a2, a3, a4, a5, a6⟩ := keepAll hvv HB HXA HV HR; obtain ⟨⟨vc0, vc1, vc2, vc3, vc4, vc5, vc6⟩, vf0, vf1, vf2, vf3, vf4, vf5, vf6⟩ := HV.out; clear hvv)
   | fail)
 obtain ⟨z7, zb⟩ := fin7 HV HB (.int .i64 0) (.bool false) (.bool false) (.slice none 0 0) (.int .u64 0) (.string ⟨#[]⟩) (.slice none 0 0)
 unfold put7 at z7 zb
 exact bodyPost_ret (v := .tuple #[.agg #[.int .i64 0, .bool false, .bool false, .slice none 0 0, .int .u64 0, .string ⟨#[]⟩, .slice none 0 0], .int .i64 3]) (by simp [results, Tryz.results6, go_sem, z7.c0, z7.c1, z7.c2, z7.c3, z7.c4, z7.c5, z7.c6]) rfl (ValP.none zb)
theorem ti_none (y n : Bool) (u : Value) (ws : List Int) (b : Nat) (s : ByteArray) (ip : Option Addr) (m ic : Nat) (w : World) (hb : b < 18446744073709551616) (hr : Rd w u ws) (hf : Fit ws) (hm : (m : Int) ≤ 9223372036854775807) (hs : (s.size : Int) ≤ 9223372036854775807) (hg : goodP 0 y n ws b s m = true) :
   Calls Tryz.prog 6 #[.agg #[.int .i64 0, .bool y, .bool n, u, .int .u64 (b : Int), .string s, .slice ip m ic]] w (ValP 0 0 0 9 w) := by
 obtain ⟨p, c, rfl, hc, hwm, hp⟩ := rd_form hr
 obtain ⟨W1, hW1, HB, HXA, HV, HLT⟩ := pre1 w (.int .i64 0) (.bool y) (.bool n) (.slice p ws.length c) (.int .u64 (b : Int)) (.string s) (.slice ip m ic)
 have HR := hid (hr.keep HB.out)
 have HG := hid (fun (W : World) (hx : Rd W (.slice p ws.length c) ws) => good15_any 0 y n _ ws b s ip m ic W hb hx hf hm hs)
 rw [hg] at HG
 have HW := hid (fun (W : World) => isWhole_any 0 y n (.slice p ws.length c) b s (.slice ip m ic) W)
 rw [show wholeP 0 = false from (by decide)] at HW
 clear hr hf hp hb hm hs hg
 obtain ⟨a0, a1, a2, a3, a4, a5, a6⟩ := HXA.out
 go_enter Tryz.func6, Tryz.ntmps6
 go_wp2_with (first
   | (go_at_call 23; (try rw [hW1]); (with_reducible refine (HG.out _ HR.out).mono ?_); rintro e vn ⟨rfl, hvv⟩; obtain ⟨HB, HXA, HV, HR, a0, a1, a2, a3, a4, a5, a6⟩ := keepAll hvv HB HXA HV HR; clear hvv)
   | (go_at_call 32; (try rw [hW1]); (with_reducible refine (HW.out _).mono ?_); rintro e vn ⟨rfl, hvv⟩; obtain ⟨HB, HXA, HV, HR, a0, a1, a2, a3, a4, a5, a6⟩ := keepAll hvv HB HXA HV HR; obtain ⟨⟨vc0, vc1, vc2, vc3, vc4, vc5, vc6⟩, vf0, vf1, vf2, vf3, vf4, vf5, vf6⟩ := HV.out; clear hvv)
   | fail)
 obtain ⟨z7, zb⟩ := fin7 HV HB (.int .i64 0) (.bool false) (.bool false) (.slice none 0 0) (.int .u64 0) (.string ⟨#[]⟩) (.slice none 0 0)
 unfold put7 at z7 zb
 exact bodyPost_ret (v := .tuple #[.agg #[.int .i64 0, .bool false, .bool false, .slice none 0 0, .int .u64 0, .string ⟨#[]⟩, .slice none 0 0], .int .i64 9]) (by simp [results, Tryz.results6, go_sem, z7.c0, z7.c1, z7.c2, z7.c3, z7.c4, z7.c5, z7.c6]) rfl (ValP.none zb)
theorem ti_w (k : Int) (y n : Bool) (u : Value) (ws : List Int) (b : Nat) (s : ByteArray) (ip : Option Addr) (m ic : Nat) (w : World) (hb : b < 18446744073709551616) (hr : Rd w u ws) (hf : Fit ws) (hm : (m : Int) ≤ 9223372036854775807) (hs : (s.size : Int) ≤ 9223372036854775807) (hk : k = 1 ∨ k = 2) (hg : goodP k y n ws b s m = true) :
   Calls Tryz.prog 6 #[.agg #[.int .i64 k, .bool y, .bool n, u, .int .u64 (b : Int), .string s, .slice ip m ic]] w (ValP 2 (zP k y n ws) 0 0 w) := by
 obtain ⟨p, c, rfl, hc, hwm, hp⟩ := rd_form hr
 obtain ⟨W1, hW1, HB, HXA, HV, HLT⟩ := pre1 w (.int .i64 k) (.bool y) (.bool n) (.slice p ws.length c) (.int .u64 (b : Int)) (.string s) (.slice ip m ic)
 have HR := hid (hr.keep HB.out)
 have HT := hid (fun (W : World) (hx : Rd W (.slice p ws.length c) ws) => toBig_any k y n _ ws b s (.slice ip m ic) W hx hf (good_k2 hg))
 have HG := hid (fun (W : World) (hx : Rd W (.slice p ws.length c) ws) => good15_any k y n _ ws b s ip m ic W hb hx hf hm hs)
 rw [hg] at HG
 have HW := hid (fun (W : World) => isWhole_any k y n (.slice p ws.length c) b s (.slice ip m ic) W)
 rw [show wholeP k = true from (by rcases hk with rfl | rfl <;> rfl)] at HW
 clear hr hf hp hb hm hs hg hk
 obtain ⟨a0, a1, a2, a3, a4, a5, a6⟩ := HXA.out
 go_enter Tryz.func6, Tryz.ntmps6
 go_wp2_with (first
   | (go_at_call 23; (try rw [hW1]); (with_reducible refine (HG.out _ HR.out).mono ?_); rintro e vn ⟨rfl, hvv⟩; obtain ⟨HB, HXA, HV, HR, a0, a1, a2, a3, a4, a5, a6⟩ := keepAll hvv HB HXA HV HR; clear hvv)
   | (go_at_call 32; (try rw [hW1]); (with_reducible refine (HW.out _).mono ?_); rintro e vn ⟨rfl, hvv⟩; obtain ⟨HB, HXA, HV, HR, a0, a1, a2, a3, a4, a5, a6⟩ := keepAll hvv HB HXA HV HR; clear hvv)
   | (go_at_call 30; (try rw [hW1]); (with_reducible refine (HT.out _ HR.out).mono ?_); rintro e vn ⟨nb, pb, cb, wb, rfl, hRb, hSb, hLb, hvv⟩; obtain ⟨HB, HXA, HV, HR, a0, a1, a2, a3, a4, a5, a6⟩ := keepAll hvv HB HXA HV HR; have HRb := hid hRb; have HSb := hid hSb; have HLb := hid hLb; clear hRb hSb hLb; clear hvv)
   | (go_at_call 31; (try rw [hW1]); (with_reducible refine (own_any nb _ wb _ _ HRb.out HSb.out HLb.out).mono ?_); rintro e vn ⟨nr, pr, cr, wr, rfl, hRr, hSr, hvv, _⟩; obtain ⟨HB, HXA, HV, HR, a0, a1, a2, a3, a4, a5, a6⟩ := keepAll hvv HB HXA HV HR; have HRr := hid hRr; have HSr := hid hSr; clear hRr hSr; clear hvv)
   | (go_at_call 28; (try rw [hW1]); (with_reducible refine (ints_ok nr pr wr.length cr _).mono ?_); rintro e vn ⟨rfl, hvv⟩; obtain ⟨HB, HXA, HV, HR, a0, a1, a2, a3, a4, a5, a6⟩ := keepAll hvv HB HXA HV HR; replace HRr := hid (HRr.out.keep hvv); obtain ⟨⟨vc0, vc1, vc2, vc3, vc4, vc5, vc6⟩, vf0, vf1, vf2, vf3, vf4, vf5, vf6⟩ := HV.out; clear hvv)
   | fail)
 obtain ⟨z7, zb⟩ := fin7 HV HB (.int .i64 2) (.bool false) (.bool nr) (.slice pr wr.length cr) (.int .u64 0) (.string ⟨#[]⟩) (.slice none 0 0)
 have zr := HRr.out.put7 (k := 0) HV.out.b (.int .i64 2) (.bool false) (.bool nr) (.slice pr wr.length cr) (.string ⟨#[]⟩) (.slice none 0 0)
 unfold put7 at z7 zb zr
 exact bodyPost_ret (v := .tuple #[.agg #[.int .i64 2, .bool false, .bool nr, .slice pr wr.length cr, .int .u64 0, .string ⟨#[]⟩, .slice none 0 0], .int .i64 0]) (by simp [results, Tryz.results6, go_sem, z7.c0, z7.c1, z7.c2, z7.c3, z7.c4, z7.c5, z7.c6]) rfl ⟨nr, pr, cr, wr, rfl, zr, HSr.out, zb⟩
theorem ti_f (y n : Bool) (u : Value) (ws : List Int) (b : Nat) (s : ByteArray) (ip : Option Addr) (m ic : Nat) (w : World) (hb : b < 18446744073709551616) (hr : Rd w u ws) (hf : Fit ws) (hm : (m : Int) ≤ 9223372036854775807) (hs : (s.size : Int) ≤ 9223372036854775807) (hg : goodP 3 y n ws b s m = true) (z : Int) (hw : ∀ W, Calls Tryz.prog 33 #[.int .u64 (b : Int)] W (WhX z 0 W)) :
   Calls Tryz.prog 6 #[.agg #[.int .i64 3, .bool y, .bool n, u, .int .u64 (b : Int), .string s, .slice ip m ic]] w (ValP 2 z 0 0 w) := by
 obtain ⟨p, c, rfl, hc, hwm, hp⟩ := rd_form hr
 obtain ⟨W1, hW1, HB, HXA, HV, HLT⟩ := pre1 w (.int .i64 3) (.bool y) (.bool n) (.slice p ws.length c) (.int .u64 (b : Int)) (.string s) (.slice ip m ic)
 have HR := hid (hr.keep HB.out)
 have HWh := hid hw
 have HG := hid (fun (W : World) (hx : Rd W (.slice p ws.length c) ws) => good15_any 3 y n _ ws b s ip m ic W hb hx hf hm hs)
 rw [hg] at HG
 have HW := hid (fun (W : World) => isWhole_any 3 y n (.slice p ws.length c) b s (.slice ip m ic) W)
 rw [show wholeP 3 = false from (by decide)] at HW
 clear hr hf hp hb hm hs hg hw
 obtain ⟨a0, a1, a2, a3, a4, a5, a6⟩ := HXA.out
 go_enter Tryz.func6, Tryz.ntmps6
 go_wp2_with (first
   | (go_at_call 23; (try rw [hW1]); (with_reducible refine (HG.out _ HR.out).mono ?_); rintro e vn ⟨rfl, hvv⟩; obtain ⟨HB, HXA, HV, HR, a0, a1, a2, a3, a4, a5, a6⟩ := keepAll hvv HB HXA HV HR; clear hvv)
   | (go_at_call 32; (try rw [hW1]); (with_reducible refine (HW.out _).mono ?_); rintro e vn ⟨rfl, hvv⟩; obtain ⟨HB, HXA, HV, HR, a0, a1, a2, a3, a4, a5, a6⟩ := keepAll hvv HB HXA HV HR; clear hvv)
   | (go_at_call 33; (try rw [hW1]); (with_reducible refine (HWh.out _).mono ?_); rintro e vn ⟨nr, pr, cr, wr, rfl, hRr, hSr, hvv⟩; obtain ⟨HB, HXA, HV, HR, a0, a1, a2, a3, a4, a5, a6⟩ := keepAll hvv HB HXA HV HR; have HRr := hid hRr; have HSr := hid hSr; clear hRr hSr; clear hvv)
   | (go_at_call 28; (try rw [hW1]); (with_reducible refine (ints_ok nr pr wr.length cr _).mono ?_); rintro e vn ⟨rfl, hvv⟩; obtain ⟨HB, HXA, HV, HR, a0, a1, a2, a3, a4, a5, a6⟩ := keepAll hvv HB HXA HV HR; replace HRr := hid (HRr.out.keep hvv); obtain ⟨⟨vc0, vc1, vc2, vc3, vc4, vc5, vc6⟩, vf0, vf1, vf2, vf3, vf4, vf5, vf6⟩ := HV.out; clear hvv)
   | fail)
 obtain ⟨z7, zb⟩ := fin7 HV HB (.int .i64 2) (.bool false) (.bool nr) (.slice pr wr.length cr) (.int .u64 0) (.string ⟨#[]⟩) (.slice none 0 0)
 have zr := HRr.out.put7 (k := 0) HV.out.b (.int .i64 2) (.bool false) (.bool nr) (.slice pr wr.length cr) (.string ⟨#[]⟩) (.slice none 0 0)
 unfold put7 at z7 zb zr
 exact bodyPost_ret (v := .tuple #[.agg #[.int .i64 2, .bool false, .bool nr, .slice pr wr.length cr, .int .u64 0, .string ⟨#[]⟩, .slice none 0 0], .int .i64 0]) (by simp [results, Tryz.results6, go_sem, z7.c0, z7.c1, z7.c2, z7.c3, z7.c4, z7.c5, z7.c6]) rfl ⟨nr, pr, cr, wr, rfl, zr, HSr.out, zb⟩
theorem ti_fbad (y n : Bool) (u : Value) (ws : List Int) (b : Nat) (s : ByteArray) (ip : Option Addr) (m ic : Nat) (w : World) (hb : b < 18446744073709551616) (hr : Rd w u ws) (hf : Fit ws) (hm : (m : Int) ≤ 9223372036854775807) (hs : (s.size : Int) ≤ 9223372036854775807) (hg : goodP 3 y n ws b s m = true) (z x : Int) (hw : ∀ W, Calls Tryz.prog 33 #[.int .u64 (b : Int)] W (WhX z x W)) (hx : x ≠ 0) :
   Calls Tryz.prog 6 #[.agg #[.int .i64 3, .bool y, .bool n, u, .int .u64 (b : Int), .string s, .slice ip m ic]] w (ValP 0 0 0 x w) := by
 obtain ⟨p, c, rfl, hc, hwm, hp⟩ := rd_form hr
 obtain ⟨W1, hW1, HB, HXA, HV, HLT⟩ := pre1 w (.int .i64 3) (.bool y) (.bool n) (.slice p ws.length c) (.int .u64 (b : Int)) (.string s) (.slice ip m ic)
 have HR := hid (hr.keep HB.out)
 have HWh := hid hw
 have HG := hid (fun (W : World) (hx : Rd W (.slice p ws.length c) ws) => good15_any 3 y n _ ws b s ip m ic W hb hx hf hm hs)
 rw [hg] at HG
 have HW := hid (fun (W : World) => isWhole_any 3 y n (.slice p ws.length c) b s (.slice ip m ic) W)
 rw [show wholeP 3 = false from (by decide)] at HW
 clear hr hf hp hb hm hs hg hw
 obtain ⟨a0, a1, a2, a3, a4, a5, a6⟩ := HXA.out
 go_enter Tryz.func6, Tryz.ntmps6
 go_wp2_with (first
   | (go_at_call 23; (try rw [hW1]); (with_reducible refine (HG.out _ HR.out).mono ?_); rintro e vn ⟨rfl, hvv⟩; obtain ⟨HB, HXA, HV, HR, a0, a1, a2, a3, a4, a5, a6⟩ := keepAll hvv HB HXA HV HR; clear hvv)
   | (go_at_call 32; (try rw [hW1]); (with_reducible refine (HW.out _).mono ?_); rintro e vn ⟨rfl, hvv⟩; obtain ⟨HB, HXA, HV, HR, a0, a1, a2, a3, a4, a5, a6⟩ := keepAll hvv HB HXA HV HR; clear hvv)
   | (go_at_call 33; (try rw [hW1]); (with_reducible refine (HWh.out _).mono ?_); rintro e vn ⟨nr, pr, cr, wr, rfl, hRr, hSr, hvv⟩; obtain ⟨HB, HXA, HV, HR, a0, a1, a2, a3, a4, a5, a6⟩ := keepAll hvv HB HXA HV HR; have HRr := hid hRr; have HSr := hid hSr; clear hRr hSr; clear hvv)
   | (go_at_call 28; (try rw [hW1]); (with_reducible refine (ints_bad nr pr wr.length cr x hx _).mono ?_); rintro e vn ⟨rfl, hvv⟩; obtain ⟨HB, HXA, HV, HR, a0, a1, a2, a3, a4, a5, a6⟩ := keepAll hvv HB HXA HV HR; obtain ⟨⟨vc0, vc1, vc2, vc3, vc4, vc5, vc6⟩, vf0, vf1, vf2, vf3, vf4, vf5, vf6⟩ := HV.out; clear hvv)
   | fail)
 obtain ⟨z7, zb⟩ := fin7 HV HB (.int .i64 0) (.bool false) (.bool false) (.slice none 0 0) (.int .u64 0) (.string ⟨#[]⟩) (.slice none 0 0)
 unfold put7 at z7 zb
 exact bodyPost_ret (v := .tuple #[.agg #[.int .i64 0, .bool false, .bool false, .slice none 0 0, .int .u64 0, .string ⟨#[]⟩, .slice none 0 0], .int .i64 x]) (by simp [results, Tryz.results6, go_sem, z7.c0, z7.c1, z7.c2, z7.c3, z7.c4, z7.c5, z7.c6]) rfl (ValP.none zb)
theorem tf_bad (k : Int) (y n : Bool) (u : Value) (ws : List Int) (b : Nat) (s : ByteArray) (ip : Option Addr) (m ic : Nat) (w : World) (hb : b < 18446744073709551616) (hr : Rd w u ws) (hf : Fit ws) (hm : (m : Int) ≤ 9223372036854775807) (hs : (s.size : Int) ≤ 9223372036854775807) (hg : goodP k y n ws b s m = false) :
   Calls Tryz.prog 7 #[.agg #[.int .i64 k, .bool y, .bool n, u, .int .u64 (b : Int), .string s, .slice ip m ic]] w (ValP 0 0 0 3 w) := by
 obtain ⟨p, c, rfl, hc, hwm, hp⟩ := rd_form hr
 obtain ⟨W1, hW1, HB, HXA, HV, HLT⟩ := pre1 w (.int .i64 k) (.bool y) (.bool n) (.slice p ws.length c) (.int .u64 (b : Int)) (.string s) (.slice ip m ic)
 have HR := hid (hr.keep HB.out)
 have HG := hid (fun (W : World) (hx : Rd W (.slice p ws.length c) ws) => good15_any k y n _ ws b s ip m ic W hb hx hf hm hs)
 rw [hg] at HG
 clear hr hf hp hb hm hs hg
 obtain ⟨a0, a1, a2, a3, a4, a5, a6⟩ := HXA.out
 go_enter Tryz.func7, Tryz.ntmps7
 go_wp2_with (first
   | (go_at_call 23; (try rw [hW1]); (with_reducible refine (HG.out _ HR.out).mono ?_); rintro e vn ⟨rfl, hvv⟩; obtain ⟨HB, HXA, HV, HR, a0, a1, a2, a3, a4, a5, a6⟩ := keepAll hvv HB HXA HV HR; obtain ⟨⟨vc0, vc1, vc2, vc3, vc4, vc5, vc6⟩, vf0, vf1, vf2, vf3, vf4, vf5, vf6⟩ := HV.out; clear hvv)
   | fail)
 obtain ⟨z7, zb⟩ := fin7 HV HB (.int .i64 0) (.bool false) (.bool false) (.slice none 0 0) (.int .u64 0) (.string ⟨#[]⟩) (.slice none 0 0)
 unfold put7 at z7 zb
 exact bodyPost_ret (v := .tuple #[.agg #[.int .i64 0, .bool false, .bool false, .slice none 0 0, .int .u64 0, .string ⟨#[]⟩, .slice none 0 0], .int .i64 3]) (by simp [results, Tryz.results7, go_sem, z7.c0, z7.c1, z7.c2, z7.c3, z7.c4, z7.c5, z7.c6]) rfl (ValP.none zb)
theorem tf_none (y n : Bool) (u : Value) (ws : List Int) (b : Nat) (s : ByteArray) (ip : Option Addr) (m ic : Nat) (w : World) (hb : b < 18446744073709551616) (hr : Rd w u ws) (hf : Fit ws) (hm : (m : Int) ≤ 9223372036854775807) (hs : (s.size : Int) ≤ 9223372036854775807) (hg : goodP 0 y n ws b s m = true) :
   Calls Tryz.prog 7 #[.agg #[.int .i64 0, .bool y, .bool n, u, .int .u64 (b : Int), .string s, .slice ip m ic]] w (ValP 0 0 0 9 w) := by
 obtain ⟨p, c, rfl, hc, hwm, hp⟩ := rd_form hr
 obtain ⟨W1, hW1, HB, HXA, HV, HLT⟩ := pre1 w (.int .i64 0) (.bool y) (.bool n) (.slice p ws.length c) (.int .u64 (b : Int)) (.string s) (.slice ip m ic)
 have HR := hid (hr.keep HB.out)
 have HG := hid (fun (W : World) (hx : Rd W (.slice p ws.length c) ws) => good15_any 0 y n _ ws b s ip m ic W hb hx hf hm hs)
 rw [hg] at HG
 have HN := hid (fun (W : World) => isNumber_any 0 y n (.slice p ws.length c) b s (.slice ip m ic) W)
 rw [show numP 0 = false from (by decide)] at HN
 clear hr hf hp hb hm hs hg
 obtain ⟨a0, a1, a2, a3, a4, a5, a6⟩ := HXA.out
 go_enter Tryz.func7, Tryz.ntmps7
 go_wp2_with (first
   | (go_at_call 23; (try rw [hW1]); (with_reducible refine (HG.out _ HR.out).mono ?_); rintro e vn ⟨rfl, hvv⟩; obtain ⟨HB, HXA, HV, HR, a0, a1, a2, a3, a4, a5, a6⟩ := keepAll hvv HB HXA HV HR; clear hvv)
   | (go_at_call 24; (try rw [hW1]); (with_reducible refine (HN.out _).mono ?_); rintro e vn ⟨rfl, hvv⟩; obtain ⟨HB, HXA, HV, HR, a0, a1, a2, a3, a4, a5, a6⟩ := keepAll hvv HB HXA HV HR; obtain ⟨⟨vc0, vc1, vc2, vc3, vc4, vc5, vc6⟩, vf0, vf1, vf2, vf3, vf4, vf5, vf6⟩ := HV.out; clear hvv)
   | fail)
 obtain ⟨z7, zb⟩ := fin7 HV HB (.int .i64 0) (.bool false) (.bool false) (.slice none 0 0) (.int .u64 0) (.string ⟨#[]⟩) (.slice none 0 0)
 unfold put7 at z7 zb
 exact bodyPost_ret (v := .tuple #[.agg #[.int .i64 0, .bool false, .bool false, .slice none 0 0, .int .u64 0, .string ⟨#[]⟩, .slice none 0 0], .int .i64 9]) (by simp [results, Tryz.results7, go_sem, z7.c0, z7.c1, z7.c2, z7.c3, z7.c4, z7.c5, z7.c6]) rfl (ValP.none zb)
theorem tf_f (y n : Bool) (u : Value) (ws : List Int) (b : Nat) (s : ByteArray) (ip : Option Addr) (m ic : Nat) (w : World) (hb : b < 18446744073709551616) (hr : Rd w u ws) (hf : Fit ws) (hm : (m : Int) ≤ 9223372036854775807) (hs : (s.size : Int) ≤ 9223372036854775807) (hg : goodP 3 y n ws b s m = true) :
   Calls Tryz.prog 7 #[.agg #[.int .i64 3, .bool y, .bool n, u, .int .u64 (b : Int), .string s, .slice ip m ic]] w (ValP 3 0 (patB b) 0 w) := by
 obtain ⟨p, c, rfl, hc, hwm, hp⟩ := rd_form hr
 obtain ⟨W1, hW1, HB, HXA, HV, HLT⟩ := pre1 w (.int .i64 3) (.bool y) (.bool n) (.slice p ws.length c) (.int .u64 (b : Int)) (.string s) (.slice ip m ic)
 have HR := hid (hr.keep HB.out)
 have HF := hid (fun (W : World) (hx : Rd W (.slice p ws.length c) ws) => toFloat_f y n _ ws b s ip m ic W hb hx hf hm hs)
 have HG := hid (fun (W : World) (hx : Rd W (.slice p ws.length c) ws) => good15_any 3 y n _ ws b s ip m ic W hb hx hf hm hs)
 rw [hg] at HG
 have HN := hid (fun (W : World) => isNumber_any 3 y n (.slice p ws.length c) b s (.slice ip m ic) W)
 rw [show numP 3 = true from (by decide)] at HN
 clear hr hf hp hb hm hs hg
 obtain ⟨a0, a1, a2, a3, a4, a5, a6⟩ := HXA.out
 go_enter Tryz.func7, Tryz.ntmps7
 go_wp2_with (first
   | (go_at_call 23; (try rw [hW1]); (with_reducible refine (HG.out _ HR.out).mono ?_); rintro e vn ⟨rfl, hvv⟩; obtain ⟨HB, HXA, HV, HR, a0, a1, a2, a3, a4, a5, a6⟩ := keepAll hvv HB HXA HV HR; clear hvv)
   | (go_at_call 24; (try rw [hW1]); (with_reducible refine (HN.out _).mono ?_); rintro e vn ⟨rfl, hvv⟩; obtain ⟨HB, HXA, HV, HR, a0, a1, a2, a3, a4, a5, a6⟩ := keepAll hvv HB HXA HV HR; clear hvv)
   | (go_at_call 27; (try rw [hW1]); (with_reducible refine (HF.out _ HR.out).mono ?_); rintro e vn ⟨rfl, hvv⟩; obtain ⟨HB, HXA, HV, HR, a0, a1, a2, a3, a4, a5, a6⟩ := keepAll hvv HB HXA HV HR; clear hvv)
   | (go_at_call 25; (try rw [hW1]); (with_reducible refine (floats_ok (patB b) _).mono ?_); rintro e vn ⟨rfl, hvv⟩; obtain ⟨HB, HXA, HV, HR, a0, a1, a2, a3, a4, a5, a6⟩ := keepAll hvv HB HXA HV HR; obtain ⟨⟨vc0, vc1, vc2, vc3, vc4, vc5, vc6⟩, vf0, vf1, vf2, vf3, vf4, vf5, vf6⟩ := HV.out; clear hvv)
   | fail)
 obtain ⟨z7, zb⟩ := fin7 HV HB (.int .i64 3) (.bool false) (.bool false) (.slice none 0 0) (.int .u64 ((patB b : Nat) : Int)) (.string ⟨#[]⟩) (.slice none 0 0)
 unfold put7 at z7 zb
 exact bodyPost_ret (v := .tuple #[.agg #[.int .i64 3, .bool false, .bool false, .slice none 0 0, .int .u64 ((patB b : Nat) : Int), .string ⟨#[]⟩, .slice none 0 0], .int .i64 0]) (by simp [results, Tryz.results7, go_sem, z7.c0, z7.c1, z7.c2, z7.c3, z7.c4, z7.c5, z7.c6]) rfl (ValP.none zb)
theorem tf_w (k : Int) (y n : Bool) (u : Value) (ws : List Int) (b : Nat) (s : ByteArray) (ip : Option Addr) (m ic : Nat) (w : World) (hb : b < 18446744073709551616) (hr : Rd w u ws) (hf : Fit ws) (hm : (m : Int) ≤ 9223372036854775807) (hs : (s.size : Int) ≤ 9223372036854775807) (hk : k = 1 ∨ k = 2) (hg : goodP k y n ws b s m = true) {B0 : Nat} (ho : OFH (zP k y n ws) B0 0 w) :
   Calls Tryz.prog 7 #[.agg #[.int .i64 k, .bool y, .bool n, u, .int .u64 (b : Int), .string s, .slice ip m ic]] w (ValP 3 0 B0 0 w) := by
 obtain ⟨p, c, rfl, hc, hwm, hp⟩ := rd_form hr
 obtain ⟨W1, hW1, HB, HXA, HV, HLT⟩ := pre1 w (.int .i64 k) (.bool y) (.bool n) (.slice p ws.length c) (.int .u64 (b : Int)) (.string s) (.slice ip m ic)
 have HR := hid (hr.keep HB.out)
 have HF := hid (fun (W : World) (hx : Rd W (.slice p ws.length c) ws) (h : OFH (zP k y n ws) B0 0 W) => toFloat_w k y n _ ws b s ip m ic W hb hx hf hm hs hk hg h)
 have HO := hid (ho.keep HB.out)
 have HG := hid (fun (W : World) (hx : Rd W (.slice p ws.length c) ws) => good15_any k y n _ ws b s ip m ic W hb hx hf hm hs)
 rw [hg] at HG
 have HN := hid (fun (W : World) => isNumber_any k y n (.slice p ws.length c) b s (.slice ip m ic) W)
 rw [show numP k = true from (by rcases hk with rfl | rfl <;> rfl)] at HN
 clear hr hf hp hb hm hs hg hk ho
 obtain ⟨a0, a1, a2, a3, a4, a5, a6⟩ := HXA.out
 go_enter Tryz.func7, Tryz.ntmps7
 go_wp2_with (first
   | (go_at_call 23; (try rw [hW1]); (with_reducible refine (HG.out _ HR.out).mono ?_); rintro e vn ⟨rfl, hvv⟩; obtain ⟨HB, HXA, HV, HR, a0, a1, a2, a3, a4, a5, a6⟩ := keepAll hvv HB HXA HV HR; replace HO := hid (HO.out.keep hvv); clear hvv)
   | (go_at_call 24; (try rw [hW1]); (with_reducible refine (HN.out _).mono ?_); rintro e vn ⟨rfl, hvv⟩; obtain ⟨HB, HXA, HV, HR, a0, a1, a2, a3, a4, a5, a6⟩ := keepAll hvv HB HXA HV HR; replace HO := hid (HO.out.keep hvv); clear hvv)
   | (go_at_call 27; (try rw [hW1]); (with_reducible refine (HF.out _ HR.out HO.out).mono ?_); rintro e vn ⟨rfl, hvv⟩; obtain ⟨HB, HXA, HV, HR, a0, a1, a2, a3, a4, a5, a6⟩ := keepAll hvv HB HXA HV HR; clear hvv)
   | (go_at_call 25; (try rw [hW1]); (with_reducible refine (floats_ok (B0) _).mono ?_); rintro e vn ⟨rfl, hvv⟩; obtain ⟨HB, HXA, HV, HR, a0, a1, a2, a3, a4, a5, a6⟩ := keepAll hvv HB HXA HV HR; obtain ⟨⟨vc0, vc1, vc2, vc3, vc4, vc5, vc6⟩, vf0, vf1, vf2, vf3, vf4, vf5, vf6⟩ := HV.out; clear hvv)
   | fail)
 obtain ⟨z7, zb⟩ := fin7 HV HB (.int .i64 3) (.bool false) (.bool false) (.slice none 0 0) (.int .u64 (B0 : Int)) (.string ⟨#[]⟩) (.slice none 0 0)
 unfold put7 at z7 zb
 exact bodyPost_ret (v := .tuple #[.agg #[.int .i64 3, .bool false, .bool false, .slice none 0 0, .int .u64 (B0 : Int), .string ⟨#[]⟩, .slice none 0 0], .int .i64 0]) (by simp [results, Tryz.results7, go_sem, z7.c0, z7.c1, z7.c2, z7.c3, z7.c4, z7.c5, z7.c6]) rfl (ValP.none zb)
theorem tf_wbad (k : Int) (y n : Bool) (u : Value) (ws : List Int) (b : Nat) (s : ByteArray) (ip : Option Addr) (m ic : Nat) (w : World) (hb : b < 18446744073709551616) (hr : Rd w u ws) (hf : Fit ws) (hm : (m : Int) ≤ 9223372036854775807) (hs : (s.size : Int) ≤ 9223372036854775807) (hk : k = 1 ∨ k = 2) (hg : goodP k y n ws b s m = true) {B0 : Nat} {X0 : Int} (hx0 : X0 ≠ 0) (ho : OFH (zP k y n ws) B0 X0 w) :
   Calls Tryz.prog 7 #[.agg #[.int .i64 k, .bool y, .bool n, u, .int .u64 (b : Int), .string s, .slice ip m ic]] w (ValP 0 0 0 X0 w) := by
 obtain ⟨p, c, rfl, hc, hwm, hp⟩ := rd_form hr
 obtain ⟨W1, hW1, HB, HXA, HV, HLT⟩ := pre1 w (.int .i64 k) (.bool y) (.bool n) (.slice p ws.length c) (.int .u64 (b : Int)) (.string s) (.slice ip m ic)
 have HR := hid (hr.keep HB.out)
 have HF := hid (fun (W : World) (hx : Rd W (.slice p ws.length c) ws) (h : OFH (zP k y n ws) B0 X0 W) => toFloat_w k y n _ ws b s ip m ic W hb hx hf hm hs hk hg h)
 have HO := hid (ho.keep HB.out)
 have HG := hid (fun (W : World) (hx : Rd W (.slice p ws.length c) ws) => good15_any k y n _ ws b s ip m ic W hb hx hf hm hs)
 rw [hg] at HG
 have HN := hid (fun (W : World) => isNumber_any k y n (.slice p ws.length c) b s (.slice ip m ic) W)
 rw [show numP k = true from (by rcases hk with rfl | rfl <;> rfl)] at HN
 clear hr hf hp hb hm hs hg hk ho
 obtain ⟨a0, a1, a2, a3, a4, a5, a6⟩ := HXA.out
 go_enter Tryz.func7, Tryz.ntmps7
 go_wp2_with (first
   | (go_at_call 23; (try rw [hW1]); (with_reducible refine (HG.out _ HR.out).mono ?_); rintro e vn ⟨rfl, hvv⟩; obtain ⟨HB, HXA, HV, HR, a0, a1, a2, a3, a4, a5, a6⟩ := keepAll hvv HB HXA HV HR; replace HO := hid (HO.out.keep hvv); clear hvv)
   | (go_at_call 24; (try rw [hW1]); (with_reducible refine (HN.out _).mono ?_); rintro e vn ⟨rfl, hvv⟩; obtain ⟨HB, HXA, HV, HR, a0, a1, a2, a3, a4, a5, a6⟩ := keepAll hvv HB HXA HV HR; replace HO := hid (HO.out.keep hvv); clear hvv)
   | (go_at_call 27; (try rw [hW1]); (with_reducible refine (HF.out _ HR.out HO.out).mono ?_); rintro e vn ⟨rfl, hvv⟩; obtain ⟨HB, HXA, HV, HR, a0, a1, a2, a3, a4, a5, a6⟩ := keepAll hvv HB HXA HV HR; clear hvv)
   | (go_at_call 25; (try rw [hW1]); (with_reducible refine (floats_bad B0 X0 hx0 _).mono ?_); rintro e vn ⟨rfl, hvv⟩; obtain ⟨HB, HXA, HV, HR, a0, a1, a2, a3, a4, a5, a6⟩ := keepAll hvv HB HXA HV HR; obtain ⟨⟨vc0, vc1, vc2, vc3, vc4, vc5, vc6⟩, vf0, vf1, vf2, vf3, vf4, vf5, vf6⟩ := HV.out; clear hvv)
   | fail)
 obtain ⟨z7, zb⟩ := fin7 HV HB (.int .i64 0) (.bool false) (.bool false) (.slice none 0 0) (.int .u64 0) (.string ⟨#[]⟩) (.slice none 0 0)
 unfold put7 at z7 zb
 exact bodyPost_ret (v := .tuple #[.agg #[.int .i64 0, .bool false, .bool false, .slice none 0 0, .int .u64 0, .string ⟨#[]⟩, .slice none 0 0], .int .i64 X0]) (by simp [results, Tryz.results7, go_sem, z7.c0, z7.c1, z7.c2, z7.c3, z7.c4, z7.c5, z7.c6]) rfl (ValP.none zb)
theorem tf_s (y n : Bool) (u : Value) (ws : List Int) (b : Nat) (s : ByteArray) (ip : Option Addr) (m ic : Nat) (w : World) (hb : b < 18446744073709551616) (hr : Rd w u ws) (hf : Fit ws) (hm : (m : Int) ≤ 9223372036854775807) (hs : (s.size : Int) ≤ 9223372036854775807) (hg : goodP 4 y n ws b s m = true) (B0 : Nat) (X0 : Int) (hX : X0 = 0) (hpa : ∀ W, Below w.heap.size w W → RPa s B0 X0 W) :
   Calls Tryz.prog 7 #[.agg #[.int .i64 4, .bool y, .bool n, u, .int .u64 (b : Int), .string s, .slice ip m ic]] w (ValP 3 0 B0 0 w) := by
 obtain ⟨p, c, rfl, hc, hwm, hp⟩ := rd_form hr
 obtain ⟨W1, hW1, HB, HXA, HV, HLT⟩ := pre1 w (.int .i64 4) (.bool y) (.bool n) (.slice p ws.length c) (.int .u64 (b : Int)) (.string s) (.slice ip m ic)
 have HR := hid (hr.keep HB.out)
 have HP := hid hpa
 have HT := hid (fun (W : World) => textually_any X0 W)
 subst hX
 have HG := hid (fun (W : World) (hx : Rd W (.slice p ws.length c) ws) => good15_any 4 y n _ ws b s ip m ic W hb hx hf hm hs)
 rw [hg] at HG
 have HN := hid (fun (W : World) => isNumber_any 4 y n (.slice p ws.length c) b s (.slice ip m ic) W)
 rw [show numP 4 = false from (by decide)] at HN
 clear hr hf hp hb hm hs hg hpa
 obtain ⟨a0, a1, a2, a3, a4, a5, a6⟩ := HXA.out
 go_enter Tryz.func7, Tryz.ntmps7
 go_wp2_with (first
   | (go_at_call 23; (try rw [hW1]); (with_reducible refine (HG.out _ HR.out).mono ?_); rintro e vn ⟨rfl, hvv⟩; obtain ⟨HB, HXA, HV, HR, a0, a1, a2, a3, a4, a5, a6⟩ := keepAll hvv HB HXA HV HR; clear hvv)
   | (go_at_call 24; (try rw [hW1]); (with_reducible refine (HN.out _).mono ?_); rintro e vn ⟨rfl, hvv⟩; obtain ⟨HB, HXA, HV, HR, a0, a1, a2, a3, a4, a5, a6⟩ := keepAll hvv HB HXA HV HR; clear hvv)
   | (go_at_call 36; (try rw [hW1]); have hpa := HP.out _ HB.out; unfold RPa at hpa; (with_reducible refine hpa.mono ?_); rintro e vn ⟨rfl, hvv⟩; obtain ⟨HB, HXA, HV, HR, a0, a1, a2, a3, a4, a5, a6⟩ := keepAll hvv HB HXA HV HR; clear hvv hpa)
   | (go_at_call 35; (with_reducible refine (HT.out _).mono ?_); rintro e w9 ⟨rfl, rfl⟩)
   | (go_at_call 25; (try rw [hW1]); (with_reducible refine (floats_ok (B0) _).mono ?_); rintro e vn ⟨rfl, hvv⟩; obtain ⟨HB, HXA, HV, HR, a0, a1, a2, a3, a4, a5, a6⟩ := keepAll hvv HB HXA HV HR; obtain ⟨⟨vc0, vc1, vc2, vc3, vc4, vc5, vc6⟩, vf0, vf1, vf2, vf3, vf4, vf5, vf6⟩ := HV.out; clear hvv)
   | fail)
 obtain ⟨z7, zb⟩ := fin7 HV HB (.int .i64 3) (.bool false) (.bool false) (.slice none 0 0) (.int .u64 (B0 : Int)) (.string ⟨#[]⟩) (.slice none 0 0)
 unfold put7 at z7 zb
 exact bodyPost_ret (v := .tuple #[.agg #[.int .i64 3, .bool false, .bool false, .slice none 0 0, .int .u64 (B0 : Int), .string ⟨#[]⟩, .slice none 0 0], .int .i64 0]) (by simp [results, Tryz.results7, go_sem, z7.c0, z7.c1, z7.c2, z7.c3, z7.c4, z7.c5, z7.c6]) rfl (ValP.none zb)
theorem tf_sbad (y n : Bool) (u : Value) (ws : List Int) (b : Nat) (s : ByteArray) (ip : Option Addr) (m ic : Nat) (w : World) (hb : b < 18446744073709551616) (hr : Rd w u ws) (hf : Fit ws) (hm : (m : Int) ≤ 9223372036854775807) (hs : (s.size : Int) ≤ 9223372036854775807) (hg : goodP 4 y n ws b s m = true) (B0 : Nat) (X0 : Int) (hX : X0 = 2 ∨ X0 = 4) (hpa : ∀ W, Below w.heap.size w W → RPa s B0 X0 W) :
   Calls Tryz.prog 7 #[.agg #[.int .i64 4, .bool y, .bool n, u, .int .u64 (b : Int), .string s, .slice ip m ic]] w (ValP 0 0 0 4 w) := by
 obtain ⟨p, c, rfl, hc, hwm, hp⟩ := rd_form hr
 obtain ⟨W1, hW1, HB, HXA, HV, HLT⟩ := pre1 w (.int .i64 4) (.bool y) (.bool n) (.slice p ws.length c) (.int .u64 (b : Int)) (.string s) (.slice ip m ic)
 have HR := hid (hr.keep HB.out)
 have HP := hid hpa
 have HT := hid (fun (W : World) => textually_any X0 W)
 have hX4 : (if X0 = 2 then 4 else X0) = (4 : Int) := by rcases hX with rfl | rfl <;> rfl
 rw [hX4] at HT
 have HG := hid (fun (W : World) (hx : Rd W (.slice p ws.length c) ws) => good15_any 4 y n _ ws b s ip m ic W hb hx hf hm hs)
 rw [hg] at HG
 have HN := hid (fun (W : World) => isNumber_any 4 y n (.slice p ws.length c) b s (.slice ip m ic) W)
 rw [show numP 4 = false from (by decide)] at HN
 clear hr hf hp hb hm hs hg hpa
 obtain ⟨a0, a1, a2, a3, a4, a5, a6⟩ := HXA.out
 go_enter Tryz.func7, Tryz.ntmps7
 go_wp2_with (first
   | (go_at_call 23; (try rw [hW1]); (with_reducible refine (HG.out _ HR.out).mono ?_); rintro e vn ⟨rfl, hvv⟩; obtain ⟨HB, HXA, HV, HR, a0, a1, a2, a3, a4, a5, a6⟩ := keepAll hvv HB HXA HV HR; clear hvv)
   | (go_at_call 24; (try rw [hW1]); (with_reducible refine (HN.out _).mono ?_); rintro e vn ⟨rfl, hvv⟩; obtain ⟨HB, HXA, HV, HR, a0, a1, a2, a3, a4, a5, a6⟩ := keepAll hvv HB HXA HV HR; clear hvv)
   | (go_at_call 36; (try rw [hW1]); have hpa := HP.out _ HB.out; unfold RPa at hpa; (with_reducible refine hpa.mono ?_); rintro e vn ⟨rfl, hvv⟩; obtain ⟨HB, HXA, HV, HR, a0, a1, a2, a3, a4, a5, a6⟩ := keepAll hvv HB HXA HV HR; clear hvv hpa)
   | (go_at_call 35; (with_reducible refine (HT.out _).mono ?_); rintro e w9 ⟨rfl, rfl⟩)
   | (go_at_call 25; (try rw [hW1]); (with_reducible refine (floats_bad B0 4 (by decide) _).mono ?_); rintro e vn ⟨rfl, hvv⟩; obtain ⟨HB, HXA, HV, HR, a0, a1, a2, a3, a4, a5, a6⟩ := keepAll hvv HB HXA HV HR; obtain ⟨⟨vc0, vc1, vc2, vc3, vc4, vc5, vc6⟩, vf0, vf1, vf2, vf3, vf4, vf5, vf6⟩ := HV.out; clear hvv)
   | fail)
 obtain ⟨z7, zb⟩ := fin7 HV HB (.int .i64 0) (.bool false) (.bool false) (.slice none 0 0) (.int .u64 0) (.string ⟨#[]⟩) (.slice none 0 0)
 unfold put7 at z7 zb
 exact bodyPost_ret (v := .tuple #[.agg #[.int .i64 0, .bool false, .bool false, .slice none 0 0, .int .u64 0, .string ⟨#[]⟩, .slice none 0 0], .int .i64 4]) (by simp [results, Tryz.results7, go_sem, z7.c0, z7.c1, z7.c2, z7.c3, z7.c4, z7.c5, z7.c6]) rfl (ValP.none zb)
end Go.Proofs.YtlhfemgimieooaaGreatDoor
