/- Layer 15: an operator of one, ToInt and ToFloat of plain values: the program's. -/
import Derived.Test.YtpebnofjcodikaaGreatDoorPGPlQ
import Derived.Test.YtpebnofjcodikaaGreatDoorPGOf
namespace Go.Proofs.YtpebnofjcodikaaGreatDoor
open Go Go.ChangeShapes Go.WideShapes Go.ChangeAt Go.RowKit
set_option linter.unusedVariables false
set_option linter.unusedSimpArgs false
theorem pre0 (w : World) (v0 v1 v2 v3 v4 v5 v6 : Value) : ∃ W1, w.alloc (.cells #[v0, v1, v2, v3, v4, v5, v6] 28) = W1 ∧ Hid (Below w.heap.size w W1) ∧ Hid (Bx7 W1 w.heap.size v0 v1 v2 v3 v4 v5 v6) :=
  ⟨_, rfl, (Below.refl _ _).alloc (Nat.le_refl _) _, Bx7.new w _ _ _ _ _ _ _ _ rfl⟩
theorem pre1 (w : World) (v0 v1 v2 v3 v4 v5 v6 : Value) : ∃ W1, (w.alloc (.cells #[v0, v1, v2, v3, v4, v5, v6] 28)).alloc (.cells #[.int .i64 0, .bool false, .bool false, .slice none 0 0, .int .u64 0, .string ⟨#[]⟩, .slice none 0 0] 28) = W1 ∧ Hid (Below w.heap.size w W1) ∧ Hid (Bx7 W1 w.heap.size v0 v1 v2 v3 v4 v5 v6) ∧ Hid (Bw7 W1 (w.heap.size + 1) (.int .i64 0) (.bool false) (.bool false) (.slice none 0 0) (.int .u64 0) (.string ⟨#[]⟩) (.slice none 0 0)) ∧ Hid (w.heap.size + 1 < W1.heap.size) :=
  ⟨_, rfl, ((Below.refl _ _).alloc (Nat.le_refl _) _).alloc (by simp) _, (Bx7.new w _ _ _ _ _ _ _ _ rfl).keep ((Below.refl _ _).alloc (Nat.le_refl _) _), Bw7.new _ _ _ _ _ _ _ _ _ (by simp), World.block_lt_of_cell? _ _ (Bw7.new _ _ _ _ _ _ _ _ _ (by simp)).b.c0⟩
theorem keepAll {w cur new : World} {A B : Nat} {v0 v1 v2 v3 v4 v5 v6 z0 z1 z2 z3 z4 z5 z6 u : Value} {ws : List Int} (h : Below cur.heap.size cur new) (h1 : Hid (Below w.heap.size w cur)) (h2 : Hid (Bx7 cur A v0 v1 v2 v3 v4 v5 v6)) (h3 : Hid (Bw7 cur B z0 z1 z2 z3 z4 z5 z6)) (h4 : Hid (Rd cur u ws)) : Hid (Below w.heap.size w new) ∧ Hid (Bx7 new A v0 v1 v2 v3 v4 v5 v6) ∧ Hid (Bw7 new B z0 z1 z2 z3 z4 z5 z6) ∧ Hid (Rd new u ws) ∧ Bx7 new A v0 v1 v2 v3 v4 v5 v6 :=
  ⟨h1.out.trans (h.mono h1.out.size), h2.out.keep h, h3.out.keep h, h4.out.keep h, h2.out.keep h⟩
theorem keepSome {w cur new : World} {A : Nat} {v0 v1 v2 v3 v4 v5 v6 u : Value} {ws : List Int} (h : Below cur.heap.size cur new) (h1 : Hid (Below w.heap.size w cur)) (h2 : Hid (Bx7 cur A v0 v1 v2 v3 v4 v5 v6)) (h4 : Hid (Rd cur u ws)) : Hid (Below w.heap.size w new) ∧ Hid (Bx7 new A v0 v1 v2 v3 v4 v5 v6) ∧ Hid (Rd new u ws) ∧ Bx7 new A v0 v1 v2 v3 v4 v5 v6 :=
  ⟨h1.out.trans (h.mono h1.out.size), h2.out.keep h, h4.out.keep h, h2.out.keep h⟩
theorem fin7 {w cur : World} {z0 z1 z2 z3 z4 z5 z6 : Value} (h : Hid (Bw7 cur (w.heap.size + 1) z0 z1 z2 z3 z4 z5 z6)) (h1 : Hid (Below w.heap.size w cur)) (v0 v1 v2 v3 v4 v5 v6 : Value) : Bx7 (put7 cur (w.heap.size + 1) v0 v1 v2 v3 v4 v5 v6) (w.heap.size + 1) v0 v1 v2 v3 v4 v5 v6 ∧ Below w.heap.size w (put7 cur (w.heap.size + 1) v0 v1 v2 v3 v4 v5 v6) :=
  ⟨put7_bx h.out.b _ _ _ _ _ _ _, put7_below h1.out (Nat.le_succ _) _ _ _ _ _ _ _⟩
theorem Rd.put7 {w : World} {B k : Nat} {u : Value} {ws : List Int} {a : Int} {y n : Bool} {q1 q2 : Option Addr} {l1 c1 l2 c2 : Nat} {b : Int} {s : ByteArray} (h : Rd w u ws) (hV : Bx7 w B (.int .i64 a) (.bool y) (.bool n) (.slice q1 l1 c1) (.int .u64 b) (.string s) (.slice q2 l2 c2)) (v0 v1 v2 v3 v5 v6 : Value) : Rd (put7 w B v0 v1 v2 v3 (.int .u64 b) v5 v6) u ws := by
  rcases h with h | ⟨g, off, cc, rfl, h1, h2, h3⟩
  · exact .inl h
  · refine .inr ⟨g, off, cc, rfl, h1, h2, fun i hi => ?_⟩
    have h4 := h3 i hi
    have e0 : (⟨B, 0, none⟩ : Addr) ≠ ⟨g, off + i, none⟩ := fun e => by rw [← e, hV.c0] at h4; simp at h4
    have e1 : (⟨B, 1, none⟩ : Addr) ≠ ⟨g, off + i, none⟩ := fun e => by rw [← e, hV.c1] at h4; simp at h4
    have e2 : (⟨B, 2, none⟩ : Addr) ≠ ⟨g, off + i, none⟩ := fun e => by rw [← e, hV.c2] at h4; simp at h4
    have e3 : (⟨B, 3, none⟩ : Addr) ≠ ⟨g, off + i, none⟩ := fun e => by rw [← e, hV.c3] at h4; simp at h4
    have e5 : (⟨B, 5, none⟩ : Addr) ≠ ⟨g, off + i, none⟩ := fun e => by rw [← e, hV.c5] at h4; simp at h4
    have e6 : (⟨B, 6, none⟩ : Addr) ≠ ⟨g, off + i, none⟩ := fun e => by rw [← e, hV.c6] at h4; simp at h4
    have h5 : ((((w.setCell ⟨B, 0, none⟩ v0).setCell ⟨B, 1, none⟩ v1).setCell ⟨B, 2, none⟩ v2).setCell ⟨B, 3, none⟩ v3).cell? ⟨g, off + i, none⟩ = Option.some (Value.int .u64 (ws.getD i 0)) :=
      (World.cell?_setCell_other _ _ _ _ e3).trans ((World.cell?_setCell_other _ _ _ _ e2).trans ((World.cell?_setCell_other _ _ _ _ e1).trans ((World.cell?_setCell_other _ _ _ _ e0).trans h4)))
    refine (World.cell?_setCell_other _ _ _ _ e6).trans ((World.cell?_setCell_other _ _ _ _ e5).trans ?_)
    by_cases he : (⟨B, 4, none⟩ : Addr) = ⟨g, off + i, none⟩
    · have hb : (Value.int .u64 b) = .int .u64 (ws.getD i 0) := by
        rw [← he, hV.c4] at h4
        exact Option.some.inj h4
      rw [← he] at h5 ⊢
      rw [← hb]
      exact World.cell?_setCell_same _ _ _ h5
    · exact (World.cell?_setCell_other _ _ _ _ he).trans h5
set_option maxRecDepth 100000 in
set_option maxHeartbeats 4000000 in
theorem own_any (n : Bool) (u : Value) (ws : List Int) (z : Int) (w : World) (hr : Rd w u ws) (hs : Sgn B18 n ws z) (hl : ws.length ≤ 30) :
    Calls Tryz.prog 30 #[.agg #[.bool n, u]] w (BigAt w w z) := by
  obtain ⟨p, c, rfl, hc, hwm, hp⟩ := rd_form hr
  obtain ⟨W1, hW1⟩ : ∃ x, (w.alloc (.cells #[.bool n, .slice p ws.length c] 24)).alloc (.cells #[.bool false, .slice none 0 0] 24) = x := ⟨_, rfl⟩
  have HB := Lib.hid (show Below w.heap.size w W1 by rw [← hW1]; exact ((Below.refl _ _).alloc (Nat.le_refl _) _).alloc (by simp) _)
  have HX := Lib.hid (show Box2 W1 w.heap.size (.bool n) (.slice p ws.length c) by rw [← hW1]; exact (Box2.new _ _ _ _ rfl).alloc _)
  have HV := Lib.hid (show Box2 W1 (w.heap.size + 1) (.bool false) (.slice none 0 0) by rw [← hW1]; exact Box2.new _ _ _ _ (by simp))
  have HR := Lib.hid (hr.keep HB.out)
  have HN := Lib.hid (fun (n : Bool) (u : Value) (ws : List Int) (z : Int) (W : World) (h1 : Rd W u ws) (h2 : Sgn B18 n ws z) (h3 : ws.length ≤ 30) => neg_at h1 h2 h3 (Below.refl W.heap.size W))
  have HS := Lib.hid hs
  have HL := Lib.hid hl
  clear hr hs hl hp
  have c0 := HX.out.c0
  have c1 := HX.out.c1
  go_enter Tryz.func30, Tryz.ntmps30
  go_wp2_with (first
    | (go_at_call 65; (try rw [hW1]); (with_reducible refine (HN.out _ _ ws z W1 HR.out HS.out HL.out).mono ?_); rintro e w2 ⟨n2, p2, c2, w2s, rfl, hR2, hS2, hvv, _⟩; replace HB := Lib.hid (HB.out.trans (hvv.mono HB.out.size)); replace HV := Lib.hid (HV.out.keep hvv); have HL2 := Lib.hid (hS2.small.2 (HS.out.small.1 HL.out).neg); have HR2 := Lib.hid hR2; have HS2 := Lib.hid hS2; clear hvv hR2 hS2)
    | (go_at_call 65; (with_reducible refine (HN.out _ _ w2s (-z) w2 HR2.out HS2.out HL2.out).mono ?_); rintro e w3 ⟨n3, p3, c3, w3s, rfl, hR3, hS3, hvv, _⟩; replace HB := Lib.hid (HB.out.trans (hvv.mono HB.out.size)); replace HV := Lib.hid (HV.out.keep hvv); have d0 := HV.out.c0; have d1 := HV.out.c1; have df0 := HV.out.f0; have df1 := HV.out.f1; have HR3 := Lib.hid hR3; have HS3 := Lib.hid hS3; clear hvv hR3 hS3)
    | fail)
  have z2 := two_setW (x0 := .bool n3) (x1 := .slice p3 w3s.length c3) HV.out.c0 HV.out.c1
  have hbz := (HB.out.setCell (show w.heap.size ≤ w.heap.size + 1 by omega) (.bool n3) (p := ⟨w.heap.size + 1, 0, none⟩)).setCell (show w.heap.size ≤ w.heap.size + 1 by omega) (.slice p3 w3s.length c3) (p := ⟨w.heap.size + 1, 1, none⟩)
  refine bodyPost_ret (v := .agg #[.bool n3, .slice p3 w3s.length c3]) (by simp [results, Tryz.results30, go_sem, z2.1, z2.2]) rfl ⟨n3, p3, c3, w3s, rfl, HR3.out.putN HV.out _ _, by have := HS3.out; rwa [Int.neg_neg] at this, hbz, hbz⟩
set_option maxRecDepth 100000 in
set_option maxHeartbeats 4000000 in
theorem toFloat_f (y n : Bool) (u : Value) (ws : List Int) (b : Nat) (s : ByteArray) (ip : Option Addr) (m ic : Nat) (w : World) (hb : b < 18446744073709551616) (hr : Rd w u ws) (hf : Fit ws) (hm : (m : Int) ≤ 9223372036854775807) (hs : (s.size : Int) ≤ 9223372036854775807) :
    Calls Tryz.prog 53 #[.agg #[.int .i64 3, .bool y, .bool n, u, .int .u64 (b : Int), .string s, .slice ip m ic]] w fun e w' => e = .returned (.tuple #[.int .u64 (patB b : Nat), .int .i64 0]) ∧ Below w.heap.size w w' := by
  obtain ⟨p, c, rfl, hc, hwm, hp⟩ := rd_form hr
  obtain ⟨W1, hW1, HB, HXA⟩ := pre0 w (.int .i64 3) (.bool y) (.bool n) (.slice p ws.length c) (.int .u64 (b : Int)) (.string s) (.slice ip m ic)
  have HR := Lib.hid (hr.keep HB.out)
  have HN := Lib.hid (fun (b : Nat) (hb : b < 18446744073709551616) (W : World) => neg_any b hb W)
  have HB1 := Lib.hid hb
  have HB2 := Lib.hid (show negV b < 18446744073709551616 from by unfold negV; exact patB_lt (by unfold flipB; split <;> (simp only [fSG] at *; omega)))
  have HE := Lib.hid (negneg hb)
  clear hr hf hp hb hm hs
  obtain ⟨a0, a1, a2, a3, a4, a5, a6⟩ := HXA.out
  go_enter Tryz.func53, Tryz.ntmps53
  go_wp2_with (first
    | (go_at_call 90; (try rw [hW1]); (with_reducible refine (HN.out b HB1.out _).mono ?_); rintro e w9 ⟨rfl, rfl⟩)
    | (go_at_call 90; (with_reducible refine (HN.out (negV b) HB2.out _).mono ?_); rintro e w9 ⟨rfl, rfl⟩)
    | fail)
  go_ret2
  exact ⟨by rw [HE.out]; rfl, HB.out⟩
/-- Both sides' Of at the whole number z, in every world behind W. -/
def OFH (z : Int) (B : Nat) (X : Int) (W0 : World) : Prop := ∀ W, Below W0.heap.size W0 W → ∀ (n : Bool) (u : Value) (xs : List Int), Sgn B18 n xs z → Rd W u xs → Calls Tryz.prog 87 #[.agg #[.bool n, u]] W (OfR B X W)
theorem OFH.keep {z : Int} {B : Nat} {X : Int} {w w' : World} (h : OFH z B X w) (hb : Below w.heap.size w w') : OFH z B X w' := fun W hx => h W (hb.trans (hx.mono hb.size))
theorem ofh_any {hiT loT T : Nat → Nat} (hft : TBF hiT loT T) (h3 : hiT 348 = 9223372036854775808) (h4 : loT 348 = 0) (tv : TypeId) (yv : Value) (n0 : Bool) (xs0 : List Int) (z : Int) (hs0 : Sgn B18 n0 xs0 z) : ∃ B X, (patB B = B ∧ B < 18446744073709551616) ∧ ∀ w, P10R w → PFT hiT loT T tv yv w w.heap.size → OFH z B X w := by
  obtain ⟨B, X, hBB, h⟩ := of_oneX hft tv yv n0 xs0 hs0.canon.fit
  refine ⟨B, X, hBB, fun w hP hT W hx n u xs hs hr => ?_⟩
  obtain ⟨rfl, rfl⟩ := hs.uniq (by decide) hs0
  exact h u W hr (hP.keep hx) ((hT.keep hx).up hx.size)
set_option maxRecDepth 100000 in
set_option maxHeartbeats 4000000 in
theorem toFloat_w (k : Int) (y n : Bool) (u : Value) (ws : List Int) (b : Nat) (s : ByteArray) (ip : Option Addr) (m ic : Nat) (w : World) (hb : b < 18446744073709551616) (hr : Rd w u ws) (hf : Fit ws) (hm : (m : Int) ≤ 9223372036854775807) (hs : (s.size : Int) ≤ 9223372036854775807) (hk : k = 1 ∨ k = 2) (hg : goodP k y n ws b s m = true) {B0 : Nat} {X0 : Int} (ho : OFH (zP k y n ws) B0 X0 w) :
    Calls Tryz.prog 53 #[.agg #[.int .i64 k, .bool y, .bool n, u, .int .u64 (b : Int), .string s, .slice ip m ic]] w (OfR B0 X0 w) := by
  obtain ⟨p, c, rfl, hc, hwm, hp⟩ := rd_form hr
  obtain ⟨W1, hW1, HB, HXA⟩ := pre0 w (.int .i64 k) (.bool y) (.bool n) (.slice p ws.length c) (.int .u64 (b : Int)) (.string s) (.slice ip m ic)
  have HR := Lib.hid (hr.keep HB.out)
  have HT := Lib.hid (fun (W : World) (hx : Rd W (.slice p ws.length c) ws) => toBig_any k y n _ ws b s (.slice ip m ic) W hx hf (good_k2 hg))
  have HO := Lib.hid (ho.keep HB.out)
  have q3 : (k == 3) = false := by rcases hk with rfl | rfl <;> rfl
  clear hr hf hp hg ho hk hb hm hs
  obtain ⟨a0, a1, a2, a3, a4, a5, a6⟩ := HXA.out
  go_enter Tryz.func53, Tryz.ntmps53
  go_wp2_with (first
    | (go_at_call 22; (try rw [hW1]); (with_reducible refine (HT.out _ HR.out).mono ?_); rintro e vn ⟨nr, pr, cr, wr, rfl, hRr, hSr, hLr, hvv⟩; obtain ⟨HB, HXA, HR, a0, a1, a2, a3, a4, a5, a6⟩ := keepSome hvv HB HXA HR; replace HO := Lib.hid (HO.out.keep hvv); have HRr := Lib.hid hRr; have HSr := Lib.hid hSr; clear hRr hSr hLr; clear hvv)
    | (go_at_call 87; have hof := (HO.out _ (Below.refl _ _) _ _ _ HSr.out HRr.out); (with_reducible refine hof.mono ?_); rintro e v3 ⟨rfl, hvv⟩; replace HB := Lib.hid (HB.out.trans (hvv.mono HB.out.size)); clear hvv)
    | fail)
  go_ret2
  exact ⟨rfl, HB.out⟩
set_option maxRecDepth 100000 in
set_option maxHeartbeats 4000000 in
theorem ti_w (k : Int) (y n : Bool) (u : Value) (ws : List Int) (b : Nat) (s : ByteArray) (ip : Option Addr) (m ic : Nat) (w : World) (hb : b < 18446744073709551616) (hr : Rd w u ws) (hf : Fit ws) (hm : (m : Int) ≤ 9223372036854775807) (hs : (s.size : Int) ≤ 9223372036854775807) (hk : k = 1 ∨ k = 2) (hg : goodP k y n ws b s m = true) :
    Calls Tryz.prog 8 #[.agg #[.int .i64 k, .bool y, .bool n, u, .int .u64 (b : Int), .string s, .slice ip m ic]] w (ValP 2 (zP k y n ws) 0 0 w) := by
  obtain ⟨p, c, rfl, hc, hwm, hp⟩ := rd_form hr
  obtain ⟨W1, hW1, HB, HXA, HV, HLT⟩ := pre1 w (.int .i64 k) (.bool y) (.bool n) (.slice p ws.length c) (.int .u64 (b : Int)) (.string s) (.slice ip m ic)
  have HR := Lib.hid (hr.keep HB.out)
  have HT := Lib.hid (fun (W : World) (hx : Rd W (.slice p ws.length c) ws) => toBig_any k y n _ ws b s (.slice ip m ic) W hx hf (good_k2 hg))
  have HG := Lib.hid (fun (W : World) (hx : Rd W (.slice p ws.length c) ws) => good15_any k y n _ ws b s ip m ic W hb hx hf hm hs)
  rw [hg] at HG
  have HW := Lib.hid (fun (W : World) => isWhole_any k y n (.slice p ws.length c) b s (.slice ip m ic) W)
  rw [show wholeP k = true from (by rcases hk with rfl | rfl <;> rfl)] at HW
  clear hr hf hp hb hm hs hg hk
  obtain ⟨a0, a1, a2, a3, a4, a5, a6⟩ := HXA.out
  go_enter Tryz.func8, Tryz.ntmps8
  go_wp2_with (first
    | (go_at_call 19; (try rw [hW1]); (with_reducible refine (HG.out _ HR.out).mono ?_); rintro e vn ⟨rfl, hvv⟩; obtain ⟨HB, HXA, HV, HR, a0, a1, a2, a3, a4, a5, a6⟩ := keepAll hvv HB HXA HV HR; clear hvv)
    | (go_at_call 20; (try rw [hW1]); (with_reducible refine (HW.out _).mono ?_); rintro e vn ⟨rfl, hvv⟩; obtain ⟨HB, HXA, HV, HR, a0, a1, a2, a3, a4, a5, a6⟩ := keepAll hvv HB HXA HV HR; clear hvv)
    | (go_at_call 22; (try rw [hW1]); (with_reducible refine (HT.out _ HR.out).mono ?_); rintro e vn ⟨nb, pb, cb, wb, rfl, hRb, hSb, hLb, hvv⟩; obtain ⟨HB, HXA, HV, HR, a0, a1, a2, a3, a4, a5, a6⟩ := keepAll hvv HB HXA HV HR; have HRb := Lib.hid hRb; have HSb := Lib.hid hSb; have HLb := Lib.hid hLb; clear hRb hSb hLb; clear hvv)
    | (go_at_call 30; (try rw [hW1]); (with_reducible refine (own_any nb _ wb _ _ HRb.out HSb.out HLb.out).mono ?_); rintro e vn ⟨nr, pr, cr, wr, rfl, hRr, hSr, hvv, _⟩; obtain ⟨HB, HXA, HV, HR, a0, a1, a2, a3, a4, a5, a6⟩ := keepAll hvv HB HXA HV HR; have HRr := Lib.hid hRr; have HSr := Lib.hid hSr; clear hRr hSr; clear hvv)
    | (go_at_call 29; (try rw [hW1]); (with_reducible refine (ints_ok nr pr wr.length cr _).mono ?_); rintro e vn ⟨rfl, hvv⟩; obtain ⟨HB, HXA, HV, HR, a0, a1, a2, a3, a4, a5, a6⟩ := keepAll hvv HB HXA HV HR; replace HRr := Lib.hid (HRr.out.keep hvv); obtain ⟨⟨vc0, vc1, vc2, vc3, vc4, vc5, vc6⟩, vf0, vf1, vf2, vf3, vf4, vf5, vf6⟩ := HV.out; clear hvv)
    | fail)
  obtain ⟨z7, zb⟩ := fin7 HV HB (.int .i64 2) (.bool false) (.bool nr) (.slice pr wr.length cr) (.int .u64 0) (.string ⟨#[]⟩) (.slice none 0 0)
  have zr := HRr.out.put7 (k := 0) HV.out.b (.int .i64 2) (.bool false) (.bool nr) (.slice pr wr.length cr) (.string ⟨#[]⟩) (.slice none 0 0)
  unfold put7 at z7 zb zr
  exact bodyPost_ret (v := .tuple #[.agg #[.int .i64 2, .bool false, .bool nr, .slice pr wr.length cr, .int .u64 0, .string ⟨#[]⟩, .slice none 0 0], .int .i64 0]) (by simp [results, Tryz.results8, go_sem, z7.c0, z7.c1, z7.c2, z7.c3, z7.c4, z7.c5, z7.c6]) rfl ⟨nr, pr, cr, wr, rfl, zr, HSr.out, zb⟩
end Go.Proofs.YtpebnofjcodikaaGreatDoor
