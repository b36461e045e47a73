/- Layer 15: an operator of one, ToInt and ToFloat of plain values: the document's. -/
import Derived.Test.YtlhfemgimieooaaGreatDoorPPtB
set_option linter.unusedVariables false
set_option linter.unusedSimpArgs false
set_option maxRecDepth 100000
set_option maxHeartbeats 4000000
namespace Go.Proofs.YtlhfemgimieooaaGreatDoor
open Go.Lib (hid)
open Go Go.ChangeShapes Go.WideShapes Go.ChangeAt Go.RowKit
theorem pat_pat (b : Nat) : patB (patB b) = patB b := by
 cases h : nanB b
 · have e : patB b = b := by unfold patB; rw [h]; rfl
   rw [e, e]
 · have e : patB b = fNaN := by unfold patB; rw [h]; rfl
   rw [e]; decide +kernel
theorem pat_neg (b : Nat) : patB (negV b) = negV b := pat_pat _
theorem neg_lt {b : Nat} (hb : b < 18446744073709551616) : negV b < 18446744073709551616 := patB_lt (flip_lt hb)
theorem small_z {k : Int} {y n : Bool} {ws : List Int} {b : Nat} {s : ByteArray} {m : Nat} (hf : Fit ws) (hg : goodP k y n ws b s m = true) : Small (zP k y n ws) := by
 unfold zP
 split
 · rename_i h2
   obtain ⟨hs, hl⟩ := goodB_sgn (good_k2 hg h2) hf
   exact hs.small.1 hl
 · split
   · exact small_i 1 ⟨by decide, by decide⟩
   · exact small_i 0 ⟨by decide, by decide⟩
theorem Rd.void {w w' : World} {v : Value} {ws : List Int} (h : Rd w v ws) (h0 : ws.length = 0) : Rd w' v ws := by
 rcases h with h | ⟨b, off, c, rfl, h1, h2, h3⟩
 · exact .inl h
 · exact .inr ⟨b, off, c, rfl, h1, h2, fun i hi => by omega⟩
def ValQ (q : Nat) (k z : Int) (b : Nat) (x : Int) (W : World) (e : Ending) (w' : World) : Prop :=
 ∃ n p c ws, e = .returned (.tuple #[.agg #[.int .i64 k, .bool false, .bool n, .slice p (List.length ws) c, .int .u64 (b : Int), .string ⟨#[]⟩, .slice none 0 0], .int .i64 x]) ∧ Rd w' (.slice p ws.length c) ws ∧ Sgn B18 n ws z ∧ (q = b ∨ MU w' W.heap.size (.slice p ws.length c) ws) ∧ Below W.heap.size W w'
theorem ValP.q {k z : Int} {b : Nat} {x : Int} {W : World} {e : Ending} {w' : World} (h : ValP k z b x W e w') : ValQ b k z b x W e w' := by
 obtain ⟨n, p, c, ws, h1, h2, h3, h4⟩ := h
 exact ⟨n, p, c, ws, h1, h2, h3, .inl rfl, h4⟩
theorem valq_none {q : Nat} {k : Int} {b : Nat} {x : Int} {W w' : World} (hb : Below W.heap.size W w') : ValQ q k 0 b x W (.returned (.tuple #[.agg #[.int .i64 k, .bool false, .bool false, .slice none 0 0, .int .u64 (b : Int), .string ⟨#[]⟩, .slice none 0 0], .int .i64 x])) w' :=
 ⟨false, none, 0, [], rfl, .inl ⟨none, rfl, rfl⟩, sgn_nil, .inr (.inl ⟨rfl, rfl⟩), hb⟩
def WhM (W : World) (z : Int) (e : Ending) (w' : World) : Prop :=
 ∃ n p c ws, e = .returned (.tuple #[.agg #[.bool n, .slice p (List.length ws) c], .int .i64 0]) ∧ MU w' W.heap.size (.slice p ws.length c) ws ∧ ws.length ≤ 30 ∧ Sgn B18 n ws z ∧ Below W.heap.size W w'
theorem dwh_finM (b : Nat) (hb : b < 18446744073709551616) (hn : nanB b = false) (hi : infB b = false) (w : World) :
   Calls Tryz.prog 42 #[.int .u64 (b : Int)] w (WhM w (trZ b)) := by
 have HN := hid (risNaN_any b hb)
 have HI := hid (risInf_any b hb)
 have HC := hid (rcut_any b hb hn hi)
 rw [hn] at HN
 rw [hi] at HI
 clear hn hi
 go_enter Tryz.func42, Tryz.ntmps42
 obtain ⟨W1, hW1⟩ : ∃ x, w.alloc (.cells #[.bool false, .slice none 0 0] 24) = x := ⟨_, rfl⟩
 have HB1 := hid (show Below w.heap.size w W1 by rw [← hW1]; exact (Below.refl _ _).alloc (Nat.le_refl _) _)
 have HX1 := hid (show Box2 W1 w.heap.size (.bool false) (.slice none 0 0) by rw [← hW1]; exact Box2.new _ _ _ _ rfl)
 go_wp2_with (first
   | (go_at_call 59; (with_reducible refine (HN.out _).mono ?_); rintro e w9 ⟨rfl, rfl⟩)
   | (go_at_call 81; (with_reducible refine (HI.out _).mono ?_); rintro e w9 ⟨rfl, rfl⟩)
   | (go_at_call 82; (try rw [hW1]); (with_reducible refine (HC.out _).mono ?_); rintro e w3 ⟨n3, p3, c3, ds, rfl, hr3, hs3, hb3⟩; have HX3 := hid (HX1.out.keep hb3); have HB3 := hid (HB1.out.trans (hb3.mono HB1.out.size)); have HR3 := hid hr3; have HS3 := hid hs3; clear hb3 hr3 hs3)
   | fail)
 have HL3 := hid (HS3.out.fits.2 (trZ_small b))
 generalize hw4 : w3.alloc _ = w4
 have hb34 : Below w3.heap.size w3 w4 := by rw [← hw4]; exact (Below.refl _ _).alloc (Nat.le_refl _) _
 have HX4 := hid (HX3.out.keep hb34)
 have HB4 := hid (HB3.out.trans (hb34.mono HB3.out.size))
 have HR4 := hid (HR3.out.keep hb34)
 clear hb34 hw4
 refine (to_any n3 _ ds (trZ b) w4 HR4.out HS3.out (by have := HL3.out; omega)).mono ?_
 rintro e w5 ⟨n, u, ws, rfl, hM, hS, hB⟩
 have hlen := hS.small.2 (trZ_small b)
 have hR := hM.rd (by omega)
 obtain ⟨p, c, rfl⟩ := hM.form
 have HM := hid hM
 have HLL := hid hlen
 have HLT := hid (World.block_lt_of_cell? _ _ HX4.out.c0)
 have HLE := hid HB4.out.size
 have HS := hid hS
 have HB := hid (HB4.out.trans (hB.mono HB4.out.size))
 have hb2 := HX4.out.keep hB
 have c0 := hb2.c0
 have c1 := hb2.c1
 have f0 := hb2.f0
 have f1 := hb2.f1
 have HX := hid hb2
 clear hR hS hB hM hb2 hlen
 go_wp2_with fail
 have z2 := two_setW (x0 := .bool n) (x1 := .slice p ws.length c) HX.out.c0 HX.out.c1
 refine bodyPost_ret (v := .tuple #[.agg #[.bool n, .slice p ws.length c], .int .i64 0]) (by simp [results, Tryz.results42, go_sem, z2.1, z2.2]) rfl ⟨n, p, c, ws, rfl, (HM.out.set2 HLT.out _ _).low HLE.out, HLL.out, HS.out, ?_⟩
 exact (HB.out.setCell (Nat.le_refl _) _).setCell (Nat.le_refl _) _
theorem tobits_f (y n : Bool) (u : Value) (ws : List Int) (b : Nat) (s : ByteArray) (ip : Option Addr) (m ic : Nat) (w : World) (hb : b < 18446744073709551616) (hr : Rd w u ws) (hf : Fit ws) (hm : (m : Int) ≤ 9223372036854775807) (hs : (s.size : Int) ≤ 9223372036854775807) :
   Calls Tryz.prog 44 #[.agg #[.int .i64 3, .bool y, .bool n, u, .int .u64 (b : Int), .string s, .slice ip m ic]] w (OfR b 0 w) := by
 obtain ⟨p, c, rfl, hc, hwm, hp⟩ := rd_form hr
 obtain ⟨W1, hW1, HB, HXA⟩ := pre0 w (.int .i64 3) (.bool y) (.bool n) (.slice p ws.length c) (.int .u64 (b : Int)) (.string s) (.slice ip m ic)
 have HR := hid (hr.keep HB.out)
 clear hr hf hp hb hm hs
 obtain ⟨a0, a1, a2, a3, a4, a5, a6⟩ := HXA.out
 go_enter Tryz.func44, Tryz.ntmps44
 go_wp2_with fail
 go_ret2
 exact ⟨rfl, HB.out⟩
theorem tobits_w (k : Int) (y n : Bool) (u : Value) (ws : List Int) (b : Nat) (s : ByteArray) (ip : Option Addr) (m ic : Nat) (w : World) (hb : b < 18446744073709551616) (hr : Rd w u ws) (hf : Fit ws) (hm : (m : Int) ≤ 9223372036854775807) (hs : (s.size : Int) ≤ 9223372036854775807) (hk : k = 1 ∨ k = 2) (hg : goodP k y n ws b s m = true) {B0 : Nat} {X0 : Int} (ho : OFH (zP k y n ws) B0 X0 w) :
   Calls Tryz.prog 44 #[.agg #[.int .i64 k, .bool y, .bool n, u, .int .u64 (b : Int), .string s, .slice ip m ic]] w (OfR B0 X0 w) := by
 obtain ⟨p, c, rfl, hc, hwm, hp⟩ := rd_form hr
 obtain ⟨W1, hW1, HB, HXA⟩ := pre0 w (.int .i64 k) (.bool y) (.bool n) (.slice p ws.length c) (.int .u64 (b : Int)) (.string s) (.slice ip m ic)
 have HR := hid (hr.keep HB.out)
 have HT := hid (fun (W : World) (hx : Rd W (.slice p ws.length c) ws) => rwhole_any k y n _ ws b s (.slice ip m ic) W hx hf (good_k2 hg) hk)
 have HSZ := hid (small_z hf hg)
 have HO := hid (ho.keep HB.out)
 have q3 : (k == 3) = false := by rcases hk with rfl | rfl <;> rfl
 clear hr hf hp hg ho hk hb hm hs
 obtain ⟨a0, a1, a2, a3, a4, a5, a6⟩ := HXA.out
 go_enter Tryz.func44, Tryz.ntmps44
 go_wp2_with (first
   | (go_at_call 40; (try rw [hW1]); (with_reducible refine (HT.out _ HR.out).mono ?_); rintro e vn ⟨nm, pm, cm, dm, rfl, hRm, hSm, hvv, _⟩; obtain ⟨HB, HXA, HR, a0, a1, a2, a3, a4, a5, a6⟩ := keepSome hvv HB HXA HR; replace HO := hid (HO.out.keep hvv); have HRm := hid hRm; have HSm := hid hSm; have HLm := hid (hSm.fits.2 HSZ.out); clear hRm hSm; clear hvv)
   | (go_at_call 49; (try rw [hW1]); (with_reducible refine (to_at HRm.out HSm.out HLm.out (Below.refl _ _)).mono ?_); rintro e vn ⟨nr, pr, cr, wr, rfl, hRr, hSr, hvv, _⟩; obtain ⟨HB, HXA, HR, a0, a1, a2, a3, a4, a5, a6⟩ := keepSome hvv HB HXA HR; replace HO := hid (HO.out.keep hvv); have HRr := hid hRr; have HSr := hid hSr; clear hRr hSr; clear hvv)
   | (go_at_call 84; have hof := (HO.out _ (Below.refl _ _) _ _ _ HSr.out HRr.out).2; (with_reducible refine hof.mono ?_); rintro e v3 ⟨rfl, hvv⟩; replace HB := hid (HB.out.trans (hvv.mono HB.out.size)); clear hvv)
   | fail)
 go_ret2
 exact ⟨rfl, HB.out⟩
theorem du_kind (op : Int) (k : Int) (y n : Bool) (u : Value) (ws : List Int) (b : Nat) (s : ByteArray) (ip : Option Addr) (m ic : Nat) (w : World) (hb : b < 18446744073709551616) (hr : Rd w u ws) (hf : Fit ws) (hm : (m : Int) ≤ 9223372036854775807) (hs : (s.size : Int) ≤ 9223372036854775807) (hg : goodP k y n ws b s m = true) (hq : numP k = false) :
   Calls Tryz.prog 10 #[.int .i64 op, .agg #[.int .i64 k, .bool y, .bool n, u, .int .u64 (b : Int), .string s, .slice ip m ic]] w (ValP 0 0 0 9 w) := by
 obtain ⟨p, c, rfl, hc, hwm, hp⟩ := rd_form hr
 obtain ⟨W1, hW1, HB, HXA, HV, HLT⟩ := pre1 w (.int .i64 k) (.bool y) (.bool n) (.slice p ws.length c) (.int .u64 (b : Int)) (.string s) (.slice ip m ic)
 have HR := hid (hr.keep HB.out)
 have HN := hid (fun (W : World) => number15_any k y n (.slice p ws.length c) b s (.slice ip m ic) W)
 rw [show numP k = false from hq] at HN
 clear hr hf hp hb hm hs hg hq
 obtain ⟨a0, a1, a2, a3, a4, a5, a6⟩ := HXA.out
 go_enter Tryz.func10, Tryz.ntmps10
 go_wp2_with (first
   | (go_at_call 38; (try rw [hW1]); (with_reducible refine (HN.out _).mono ?_); rintro e vn ⟨rfl, hvv⟩; obtain ⟨HB, HXA, HV, HR, a0, a1, a2, a3, a4, a5, a6⟩ := keepAll hvv HB HXA HV HR; obtain ⟨⟨vc0, vc1, vc2, vc3, vc4, vc5, vc6⟩, vf0, vf1, vf2, vf3, vf4, vf5, vf6⟩ := HV.out; clear hvv)
   | fail)
 obtain ⟨z7, zb⟩ := fin7 HV HB (.int .i64 0) (.bool false) (.bool false) (.slice none 0 0) (.int .u64 0) (.string ⟨#[]⟩) (.slice none 0 0)
 unfold put7 at z7 zb
 exact bodyPost_ret (v := .tuple #[.agg #[.int .i64 0, .bool false, .bool false, .slice none 0 0, .int .u64 0, .string ⟨#[]⟩, .slice none 0 0], .int .i64 9]) (by simp [results, Tryz.results10, go_sem, z7.c0, z7.c1, z7.c2, z7.c3, z7.c4, z7.c5, z7.c6]) rfl (ValP.none zb)
theorem du_op (op : Int) (k : Int) (y n : Bool) (u : Value) (ws : List Int) (b : Nat) (s : ByteArray) (ip : Option Addr) (m ic : Nat) (w : World) (hb : b < 18446744073709551616) (hr : Rd w u ws) (hf : Fit ws) (hm : (m : Int) ≤ 9223372036854775807) (hs : (s.size : Int) ≤ 9223372036854775807) (hg : goodP k y n ws b s m = true) (hq : numP k = true) (h1 : op ≠ 1) (h2 : op ≠ 2) :
   Calls Tryz.prog 10 #[.int .i64 op, .agg #[.int .i64 k, .bool y, .bool n, u, .int .u64 (b : Int), .string s, .slice ip m ic]] w (ValP 0 0 0 9 w) := by
 obtain ⟨p, c, rfl, hc, hwm, hp⟩ := rd_form hr
 obtain ⟨W1, hW1, HB, HXA, HV, HLT⟩ := pre1 w (.int .i64 k) (.bool y) (.bool n) (.slice p ws.length c) (.int .u64 (b : Int)) (.string s) (.slice ip m ic)
 have HR := hid (hr.keep HB.out)
 have HN := hid (fun (W : World) => number15_any k y n (.slice p ws.length c) b s (.slice ip m ic) W)
 rw [show numP k = true from hq] at HN
 have q1 : (op != 1) = true := by simpa using h1
 have q2 : (op != 2) = true := by simpa using h2
 clear hr hf hp hb hm hs hg hq h1 h2
 obtain ⟨a0, a1, a2, a3, a4, a5, a6⟩ := HXA.out
 go_enter Tryz.func10, Tryz.ntmps10
 go_wp2_with (first
   | (go_at_call 38; (try rw [hW1]); (with_reducible refine (HN.out _).mono ?_); rintro e vn ⟨rfl, hvv⟩; obtain ⟨HB, HXA, HV, HR, a0, a1, a2, a3, a4, a5, a6⟩ := keepAll hvv HB HXA HV HR; obtain ⟨⟨vc0, vc1, vc2, vc3, vc4, vc5, vc6⟩, vf0, vf1, vf2, vf3, vf4, vf5, vf6⟩ := HV.out; clear hvv)
   | fail)
 obtain ⟨z7, zb⟩ := fin7 HV HB (.int .i64 0) (.bool false) (.bool false) (.slice none 0 0) (.int .u64 0) (.string ⟨#[]⟩) (.slice none 0 0)
 unfold put7 at z7 zb
 exact bodyPost_ret (v := .tuple #[.agg #[.int .i64 0, .bool false, .bool false, .slice none 0 0, .int .u64 0, .string ⟨#[]⟩, .slice none 0 0], .int .i64 9]) (by simp [results, Tryz.results10, go_sem, z7.c0, z7.c1, z7.c2, z7.c3, z7.c4, z7.c5, z7.c6]) rfl (ValP.none zb)
theorem du_fneg (y n : Bool) (u : Value) (ws : List Int) (b : Nat) (s : ByteArray) (ip : Option Addr) (m ic : Nat) (w : World) (hb : b < 18446744073709551616) (hr : Rd w u ws) (hf : Fit ws) (hm : (m : Int) ≤ 9223372036854775807) (hs : (s.size : Int) ≤ 9223372036854775807) (hg : goodP 3 y n ws b s m = true) :
   Calls Tryz.prog 10 #[.int .i64 1, .agg #[.int .i64 3, .bool y, .bool n, u, .int .u64 (b : Int), .string s, .slice ip m ic]] w (ValP 3 0 (negV b) 0 w) := by
 obtain ⟨p, c, rfl, hc, hwm, hp⟩ := rd_form hr
 obtain ⟨W1, hW1, HB, HXA, HV, HLT⟩ := pre1 w (.int .i64 3) (.bool y) (.bool n) (.slice p ws.length c) (.int .u64 (b : Int)) (.string s) (.slice ip m ic)
 have HR := hid (hr.keep HB.out)
 have HN := hid (fun (W : World) => number15_any 3 y n (.slice p ws.length c) b s (.slice ip m ic) W)
 rw [show numP 3 = true from (by decide)] at HN
 have HF := hid (fun (W : World) => rneg_any b hb W)
 have HFl := hid (fun (W : World) => rFloat_any (negV b) (neg_lt hb) W)
 rw [pat_neg] at HFl
 clear hr hf hp hb hm hs hg
 obtain ⟨a0, a1, a2, a3, a4, a5, a6⟩ := HXA.out
 go_enter Tryz.func10, Tryz.ntmps10
 go_wp2_with (first
   | (go_at_call 38; (try rw [hW1]); (with_reducible refine (HN.out _).mono ?_); rintro e vn ⟨rfl, hvv⟩; obtain ⟨HB, HXA, HV, HR, a0, a1, a2, a3, a4, a5, a6⟩ := keepAll hvv HB HXA HV HR; clear hvv)
   | (go_at_call 39; (with_reducible refine (HF.out _).mono ?_); rintro e w9 ⟨rfl, rfl⟩)
   | (go_at_call 22; (try rw [hW1]); (with_reducible refine (HFl.out _).mono ?_); rintro e vn ⟨rfl, hvv⟩; obtain ⟨HB, HXA, HV, HR, a0, a1, a2, a3, a4, a5, a6⟩ := keepAll hvv HB HXA HV HR; obtain ⟨⟨vc0, vc1, vc2, vc3, vc4, vc5, vc6⟩, vf0, vf1, vf2, vf3, vf4, vf5, vf6⟩ := HV.out; clear hvv)
   | fail)
 obtain ⟨z7, zb⟩ := fin7 HV HB (.int .i64 3) (.bool false) (.bool false) (.slice none 0 0) (.int .u64 ((negV b : Nat) : Int)) (.string ⟨#[]⟩) (.slice none 0 0)
 unfold put7 at z7 zb
 exact bodyPost_ret (v := .tuple #[.agg #[.int .i64 3, .bool false, .bool false, .slice none 0 0, .int .u64 ((negV b : Nat) : Int), .string ⟨#[]⟩, .slice none 0 0], .int .i64 0]) (by simp [results, Tryz.results10, go_sem, z7.c0, z7.c1, z7.c2, z7.c3, z7.c4, z7.c5, z7.c6]) rfl (ValP.none zb)
theorem du_fpos (y n : Bool) (u : Value) (ws : List Int) (b : Nat) (s : ByteArray) (ip : Option Addr) (m ic : Nat) (w : World) (hb : b < 18446744073709551616) (hr : Rd w u ws) (hf : Fit ws) (hm : (m : Int) ≤ 9223372036854775807) (hs : (s.size : Int) ≤ 9223372036854775807) (hg : goodP 3 y n ws b s m = true) :
   Calls Tryz.prog 10 #[.int .i64 2, .agg #[.int .i64 3, .bool y, .bool n, u, .int .u64 (b : Int), .string s, .slice ip m ic]] w (ValP 3 0 (patB b) 0 w) := by
 obtain ⟨p, c, rfl, hc, hwm, hp⟩ := rd_form hr
 obtain ⟨W1, hW1, HB, HXA, HV, HLT⟩ := pre1 w (.int .i64 3) (.bool y) (.bool n) (.slice p ws.length c) (.int .u64 (b : Int)) (.string s) (.slice ip m ic)
 have HR := hid (hr.keep HB.out)
 have HN := hid (fun (W : World) => number15_any 3 y n (.slice p ws.length c) b s (.slice ip m ic) W)
 rw [show numP 3 = true from (by decide)] at HN
 have HFl := hid (fun (W : World) => rFloat_any b hb W)
 clear hr hf hp hb hm hs hg
 obtain ⟨a0, a1, a2, a3, a4, a5, a6⟩ := HXA.out
 go_enter Tryz.func10, Tryz.ntmps10
 go_wp2_with (first
   | (go_at_call 38; (try rw [hW1]); (with_reducible refine (HN.out _).mono ?_); rintro e vn ⟨rfl, hvv⟩; obtain ⟨HB, HXA, HV, HR, a0, a1, a2, a3, a4, a5, a6⟩ := keepAll hvv HB HXA HV HR; clear hvv)
   | (go_at_call 22; (try rw [hW1]); (with_reducible refine (HFl.out _).mono ?_); rintro e vn ⟨rfl, hvv⟩; obtain ⟨HB, HXA, HV, HR, a0, a1, a2, a3, a4, a5, a6⟩ := keepAll hvv HB HXA HV HR; obtain ⟨⟨vc0, vc1, vc2, vc3, vc4, vc5, vc6⟩, vf0, vf1, vf2, vf3, vf4, vf5, vf6⟩ := HV.out; clear hvv)
   | fail)
 obtain ⟨z7, zb⟩ := fin7 HV HB (.int .i64 3) (.bool false) (.bool false) (.slice none 0 0) (.int .u64 ((patB b : Nat) : Int)) (.string ⟨#[]⟩) (.slice none 0 0)
 unfold put7 at z7 zb
 exact bodyPost_ret (v := .tuple #[.agg #[.int .i64 3, .bool false, .bool false, .slice none 0 0, .int .u64 ((patB b : Nat) : Int), .string ⟨#[]⟩, .slice none 0 0], .int .i64 0]) (by simp [results, Tryz.results10, go_sem, z7.c0, z7.c1, z7.c2, z7.c3, z7.c4, z7.c5, z7.c6]) rfl (ValP.none zb)
theorem Bw7.set2 {w : World} {B C : Nat} {a0 a1 a2 a3 a4 a5 a6 : Value} (h : Bw7 w B a0 a1 a2 a3 a4 a5 a6) (hn : B ≠ C) (x y : Value) : Bw7 ((w.setCell ⟨C, 0, none⟩ x).setCell ⟨C, 1, none⟩ y) B a0 a1 a2 a3 a4 a5 a6 :=
 ⟨⟨cell_set2 hn h.b.c0 x y, cell_set2 hn h.b.c1 x y, cell_set2 hn h.b.c2 x y, cell_set2 hn h.b.c3 x y, cell_set2 hn h.b.c4 x y, cell_set2 hn h.b.c5 x y, cell_set2 hn h.b.c6 x y⟩, by simp only [World.frozen?_setCell]; exact h.f0, by simp only [World.frozen?_setCell]; exact h.f1, by simp only [World.frozen?_setCell]; exact h.f2, by simp only [World.frozen?_setCell]; exact h.f3, by simp only [World.frozen?_setCell]; exact h.f4, by simp only [World.frozen?_setCell]; exact h.f5, by simp only [World.frozen?_setCell]; exact h.f6⟩
theorem du_wpos (k : Int) (y n : Bool) (u : Value) (ws : List Int) (b : Nat) (s : ByteArray) (ip : Option Addr) (m ic : Nat) (w : World) (hb : b < 18446744073709551616) (hr : Rd w u ws) (hf : Fit ws) (hm : (m : Int) ≤ 9223372036854775807) (hs : (s.size : Int) ≤ 9223372036854775807) (hk : k = 1 ∨ k = 2) (hg : goodP k y n ws b s m = true) :
   Calls Tryz.prog 10 #[.int .i64 2, .agg #[.int .i64 k, .bool y, .bool n, u, .int .u64 (b : Int), .string s, .slice ip m ic]] w (ValP 2 (zP k y n ws) 0 0 w) := by
 obtain ⟨p, c, rfl, hc, hwm, hp⟩ := rd_form hr
 obtain ⟨W1, hW1, HB, HXA, HV, HLT⟩ := pre1 w (.int .i64 k) (.bool y) (.bool n) (.slice p ws.length c) (.int .u64 (b : Int)) (.string s) (.slice ip m ic)
 have HR := hid (hr.keep HB.out)
 have HT := hid (fun (W : World) (hx : Rd W (.slice p ws.length c) ws) => rwhole_any k y n _ ws b s (.slice ip m ic) W hx hf (good_k2 hg) hk)
 have HSZ := hid (small_z hf hg)
 have HN := hid (fun (W : World) => number15_any k y n (.slice p ws.length c) b s (.slice ip m ic) W)
 rw [show numP k = true from (by rcases hk with rfl | rfl <;> rfl)] at HN
 have q3 : (k == 3) = false := by rcases hk with rfl | rfl <;> rfl
 clear hr hf hp hb hm hs hg hk
 obtain ⟨a0, a1, a2, a3, a4, a5, a6⟩ := HXA.out
 go_enter Tryz.func10, Tryz.ntmps10
 go_wp2_with (first
   | (go_at_call 38; (try rw [hW1]); (with_reducible refine (HN.out _).mono ?_); rintro e vn ⟨rfl, hvv⟩; obtain ⟨HB, HXA, HV, HR, a0, a1, a2, a3, a4, a5, a6⟩ := keepAll hvv HB HXA HV HR; clear hvv)
   | (go_at_call 40; (try rw [hW1]); (with_reducible refine (HT.out _ HR.out).mono ?_); rintro e vn ⟨nm, pm, cm, dm, rfl, hRm, hSm, hvv, _⟩; obtain ⟨HB, HXA, HV, HR, a0, a1, a2, a3, a4, a5, a6⟩ := keepAll hvv HB HXA HV HR; have HRm := hid hRm; have HSm := hid hSm; have HLm := hid (hSm.fits.2 HSZ.out); clear hRm hSm; have HLV := hid HB.out.size; obtain ⟨V2, hV2⟩ : ∃ x, vn.alloc (.cells #[.bool nm, .slice pm (List.length dm) cm] 45) = x := ⟨_, rfl⟩; have HV2 := hid (show Below vn.heap.size vn V2 by rw [← hV2]; exact (Below.refl _ _).alloc (Nat.le_refl _) _); have HX2 := hid (show Box2 V2 vn.heap.size (.bool nm) (.slice pm (List.length dm) cm) by rw [← hV2]; exact Box2.new _ _ _ _ rfl); replace HRm := hid (HRm.out.keep HV2.out); replace HB := hid (HB.out.trans (HV2.out.mono HB.out.size)); have HV0 := HV; replace HV := hid (HV.out.keep HV2.out); have HLW := hid (World.block_lt_of_cell? _ _ HV0.out.b.c0); clear HV0; have x0 := HX2.out.c0; have x1 := HX2.out.c1; clear hvv)
   | (go_at_call 15; (try rw [hV2]); (with_reducible refine (rInt_any _ _ _ _ _ _ HRm.out HSm.out HSZ.out).mono ?_); rintro e vq ⟨nr, pr, cr, wr, rfl, hRr, hSr, _, hvv⟩; replace HB := hid (HB.out.trans (hvv.mono HB.out.size)); replace HV := hid (HV.out.keep hvv); have HRr := hid hRr; have HSr := hid hSr; clear hRr hSr; obtain ⟨⟨vc0, vc1, vc2, vc3, vc4, vc5, vc6⟩, vf0, vf1, vf2, vf3, vf4, vf5, vf6⟩ := HV.out; clear hvv)
   | fail)
 obtain ⟨z7, zb⟩ := fin7 HV HB (.int .i64 2) (.bool false) (.bool nr) (.slice pr wr.length cr) (.int .u64 0) (.string ⟨#[]⟩) (.slice none 0 0)
 have zr := HRr.out.put7 (k := 0) HV.out.b (.int .i64 2) (.bool false) (.bool nr) (.slice pr wr.length cr) (.string ⟨#[]⟩) (.slice none 0 0)
 unfold put7 at z7 zb zr
 exact bodyPost_ret (v := .tuple #[.agg #[.int .i64 2, .bool false, .bool nr, .slice pr wr.length cr, .int .u64 0, .string ⟨#[]⟩, .slice none 0 0], .int .i64 0]) (by simp [results, Tryz.results10, go_sem, z7.c0, z7.c1, z7.c2, z7.c3, z7.c4, z7.c5, z7.c6]) rfl ⟨nr, pr, cr, wr, rfl, zr, HSr.out, zb⟩
theorem du_wneg (k : Int) (y n : Bool) (u : Value) (ws : List Int) (b : Nat) (s : ByteArray) (ip : Option Addr) (m ic : Nat) (w : World) (hb : b < 18446744073709551616) (hr : Rd w u ws) (hf : Fit ws) (hm : (m : Int) ≤ 9223372036854775807) (hs : (s.size : Int) ≤ 9223372036854775807) (hk : k = 1 ∨ k = 2) (hg : goodP k y n ws b s m = true) :
   Calls Tryz.prog 10 #[.int .i64 1, .agg #[.int .i64 k, .bool y, .bool n, u, .int .u64 (b : Int), .string s, .slice ip m ic]] w (ValP 2 (-(zP k y n ws)) 0 0 w) := by
 obtain ⟨p, c, rfl, hc, hwm, hp⟩ := rd_form hr
 obtain ⟨W1, hW1, HB, HXA, HV, HLT⟩ := pre1 w (.int .i64 k) (.bool y) (.bool n) (.slice p ws.length c) (.int .u64 (b : Int)) (.string s) (.slice ip m ic)
 have HR := hid (hr.keep HB.out)
 have HT := hid (fun (W : World) (hx : Rd W (.slice p ws.length c) ws) => rwhole_any k y n _ ws b s (.slice ip m ic) W hx hf (good_k2 hg) hk)
 have HSZ := hid (small_z hf hg)
 have HN := hid (fun (W : World) => number15_any k y n (.slice p ws.length c) b s (.slice ip m ic) W)
 rw [show numP k = true from (by rcases hk with rfl | rfl <;> rfl)] at HN
 have q3 : (k == 3) = false := by rcases hk with rfl | rfl <;> rfl
 clear hr hf hp hb hm hs hg hk
 obtain ⟨a0, a1, a2, a3, a4, a5, a6⟩ := HXA.out
 go_enter Tryz.func10, Tryz.ntmps10
 go_wp2_with (first
   | (go_at_call 38; (try rw [hW1]); (with_reducible refine (HN.out _).mono ?_); rintro e vn ⟨rfl, hvv⟩; obtain ⟨HB, HXA, HV, HR, a0, a1, a2, a3, a4, a5, a6⟩ := keepAll hvv HB HXA HV HR; clear hvv)
   | (go_at_call 40; (try rw [hW1]); (with_reducible refine (HT.out _ HR.out).mono ?_); rintro e vn ⟨nm, pm, cm, dm, rfl, hRm, hSm, hvv, _⟩; obtain ⟨HB, HXA, HV, HR, a0, a1, a2, a3, a4, a5, a6⟩ := keepAll hvv HB HXA HV HR; have HRm := hid hRm; have HSm := hid hSm; have HLm := hid (hSm.fits.2 HSZ.out); clear hRm hSm; have HLV := hid HB.out.size; obtain ⟨V2, hV2⟩ : ∃ x, vn.alloc (.cells #[.bool nm, .slice pm (List.length dm) cm] 45) = x := ⟨_, rfl⟩; have HV2 := hid (show Below vn.heap.size vn V2 by rw [← hV2]; exact (Below.refl _ _).alloc (Nat.le_refl _) _); have HX2 := hid (show Box2 V2 vn.heap.size (.bool nm) (.slice pm (List.length dm) cm) by rw [← hV2]; exact Box2.new _ _ _ _ rfl); replace HRm := hid (HRm.out.keep HV2.out); replace HB := hid (HB.out.trans (HV2.out.mono HB.out.size)); have HV0 := HV; replace HV := hid (HV.out.keep HV2.out); have HLW := hid (World.block_lt_of_cell? _ _ HV0.out.b.c0); clear HV0; have x0 := HX2.out.c0; have x1 := HX2.out.c1; clear hvv)
   | (go_at_call 41; (try rw [hV2]); (with_reducible refine (turn_at HRm.out HSm.out (Below.refl _ _)).mono ?_); rintro e vq ⟨nt, pt, ct, dt, rfl, hRt, hSt, hvv, _⟩; replace HB := hid (HB.out.trans (hvv.mono HB.out.size)); replace HV := hid (HV.out.keep hvv); replace HX2 := hid (HX2.out.keep hvv); have HRt := hid hRt; have HSt := hid hSt; clear hRt hSt; replace x0 := HX2.out.c0; replace x1 := HX2.out.c1; have y0 := HX2.out.f0; have y1 := HX2.out.f1; clear hvv)
   | fail)
 have zR := HRt.out.set2 HX2.out (.bool nt) (.slice pt dt.length ct)
 have zV := HV.out.set2 (show w.heap.size + 1 ≠ vn.heap.size from Nat.ne_of_lt HLW.out) (.bool nt) (.slice pt dt.length ct)
 have zB := (HB.out.setCell HLV.out (.bool nt) (p := ⟨vn.heap.size, 0, none⟩)).setCell HLV.out (.slice pt dt.length ct) (p := ⟨vn.heap.size, 1, none⟩)
 refine (rInt_any _ _ _ _ _ _ zR HSt.out HSZ.out.neg).mono ?_
 rintro e vr ⟨nr, pr, cr, wr, rfl, hRr, hSr, _, hvv⟩
 replace HB := hid (zB.trans (hvv.mono zB.size))
 replace HV := hid (zV.keep hvv)
 clear zR zV zB
 have HRr := hid hRr
 have HSr := hid hSr
 clear hRr hSr hvv
 obtain ⟨⟨vc0, vc1, vc2, vc3, vc4, vc5, vc6⟩, vf0, vf1, vf2, vf3, vf4, vf5, vf6⟩ := HV.out
 go_wp2_with fail
 obtain ⟨z7, zb⟩ := fin7 HV HB (.int .i64 2) (.bool false) (.bool nr) (.slice pr wr.length cr) (.int .u64 0) (.string ⟨#[]⟩) (.slice none 0 0)
 have zr := HRr.out.put7 (k := 0) HV.out.b (.int .i64 2) (.bool false) (.bool nr) (.slice pr wr.length cr) (.string ⟨#[]⟩) (.slice none 0 0)
 unfold put7 at z7 zb zr
 exact bodyPost_ret (v := .tuple #[.agg #[.int .i64 2, .bool false, .bool nr, .slice pr wr.length cr, .int .u64 0, .string ⟨#[]⟩, .slice none 0 0], .int .i64 0]) (by simp [results, Tryz.results10, go_sem, z7.c0, z7.c1, z7.c2, z7.c3, z7.c4, z7.c5, z7.c6]) rfl ⟨nr, pr, cr, wr, rfl, zr, HSr.out, zb⟩
theorem di_none (y n : Bool) (u : Value) (ws : List Int) (b : Nat) (s : ByteArray) (ip : Option Addr) (m ic : Nat) (w : World) (hb : b < 18446744073709551616) (hr : Rd w u ws) (hf : Fit ws) (hm : (m : Int) ≤ 9223372036854775807) (hs : (s.size : Int) ≤ 9223372036854775807) (hg : goodP 0 y n ws b s m = true) :
   Calls Tryz.prog 11 #[.agg #[.int .i64 0, .bool y, .bool n, u, .int .u64 (b : Int), .string s, .slice ip m ic]] w (ValP 0 0 0 9 w) := by
 obtain ⟨p, c, rfl, hc, hwm, hp⟩ := rd_form hr
 obtain ⟨W1, hW1, HB, HXA, HV, HLT⟩ := pre1 w (.int .i64 0) (.bool y) (.bool n) (.slice p ws.length c) (.int .u64 (b : Int)) (.string s) (.slice ip m ic)
 have HR := hid (hr.keep HB.out)
 clear hr hf hp hb hm hs hg
 obtain ⟨a0, a1, a2, a3, a4, a5, a6⟩ := HXA.out
 obtain ⟨⟨vc0, vc1, vc2, vc3, vc4, vc5, vc6⟩, vf0, vf1, vf2, vf3, vf4, vf5, vf6⟩ := HV.out
 go_enter Tryz.func11, Tryz.ntmps11
 go_wp2_with fail
 obtain ⟨z7, zb⟩ := fin7 HV HB (.int .i64 0) (.bool false) (.bool false) (.slice none 0 0) (.int .u64 0) (.string ⟨#[]⟩) (.slice none 0 0)
 unfold put7 at z7 zb
 exact bodyPost_ret (v := .tuple #[.agg #[.int .i64 0, .bool false, .bool false, .slice none 0 0, .int .u64 0, .string ⟨#[]⟩, .slice none 0 0], .int .i64 9]) (by simp [results, Tryz.results11, go_sem, z7.c0, z7.c1, z7.c2, z7.c3, z7.c4, z7.c5, z7.c6]) rfl (ValP.none zb)
theorem di_w (k : Int) (y n : Bool) (u : Value) (ws : List Int) (b : Nat) (s : ByteArray) (ip : Option Addr) (m ic : Nat) (w : World) (hb : b < 18446744073709551616) (hr : Rd w u ws) (hf : Fit ws) (hm : (m : Int) ≤ 9223372036854775807) (hs : (s.size : Int) ≤ 9223372036854775807) (hk : k = 1 ∨ k = 2) (hg : goodP k y n ws b s m = true) :
   Calls Tryz.prog 11 #[.agg #[.int .i64 k, .bool y, .bool n, u, .int .u64 (b : Int), .string s, .slice ip m ic]] w (ValP 2 (zP k y n ws) 0 0 w) := by
 obtain ⟨p, c, rfl, hc, hwm, hp⟩ := rd_form hr
 obtain ⟨W1, hW1, HB, HXA, HV, HLT⟩ := pre1 w (.int .i64 k) (.bool y) (.bool n) (.slice p ws.length c) (.int .u64 (b : Int)) (.string s) (.slice ip m ic)
 have HR := hid (hr.keep HB.out)
 have HT := hid (fun (W : World) (hx : Rd W (.slice p ws.length c) ws) => rwhole_any k y n _ ws b s (.slice ip m ic) W hx hf (good_k2 hg) hk)
 have HSZ := hid (small_z hf hg)
 have HK := hid hk
 clear hr hf hp hb hm hs hg hk
 obtain ⟨a0, a1, a2, a3, a4, a5, a6⟩ := HXA.out
 rcases HK.out with rfl | rfl
 · go_enter Tryz.func11, Tryz.ntmps11
   go_wp2_with (first
     | (go_at_call 40; (try rw [hW1]); (with_reducible refine (HT.out _ HR.out).mono ?_); rintro e vn ⟨nm, pm, cm, dm, rfl, hRm, hSm, hvv, _⟩; obtain ⟨HB, HXA, HV, HR, a0, a1, a2, a3, a4, a5, a6⟩ := keepAll hvv HB HXA HV HR; have HRm := hid hRm; have HSm := hid hSm; have HLm := hid (hSm.fits.2 HSZ.out); clear hRm hSm; clear hvv)
     | (go_at_call 15; (try rw [hW1]); (with_reducible refine (rInt_any _ _ _ _ _ _ HRm.out HSm.out HSZ.out).mono ?_); rintro e vn ⟨nr, pr, cr, wr, rfl, hRr, hSr, _, hvv⟩; obtain ⟨HB, HXA, HV, HR, a0, a1, a2, a3, a4, a5, a6⟩ := keepAll hvv HB HXA HV HR; have HRr := hid hRr; have HSr := hid hSr; clear hRr hSr; obtain ⟨⟨vc0, vc1, vc2, vc3, vc4, vc5, vc6⟩, vf0, vf1, vf2, vf3, vf4, vf5, vf6⟩ := HV.out; clear hvv)
     | fail)
   obtain ⟨z7, zb⟩ := fin7 HV HB (.int .i64 2) (.bool false) (.bool nr) (.slice pr wr.length cr) (.int .u64 0) (.string ⟨#[]⟩) (.slice none 0 0)
   have zr := HRr.out.put7 (k := 0) HV.out.b (.int .i64 2) (.bool false) (.bool nr) (.slice pr wr.length cr) (.string ⟨#[]⟩) (.slice none 0 0)
   unfold put7 at z7 zb zr
   exact bodyPost_ret (v := .tuple #[.agg #[.int .i64 2, .bool false, .bool nr, .slice pr wr.length cr, .int .u64 0, .string ⟨#[]⟩, .slice none 0 0], .int .i64 0]) (by simp [results, Tryz.results11, go_sem, z7.c0, z7.c1, z7.c2, z7.c3, z7.c4, z7.c5, z7.c6]) rfl ⟨nr, pr, cr, wr, rfl, zr, HSr.out, zb⟩
 · go_enter Tryz.func11, Tryz.ntmps11
   go_wp2_with (first
     | (go_at_call 40; (try rw [hW1]); (with_reducible refine (HT.out _ HR.out).mono ?_); rintro e vn ⟨nm, pm, cm, dm, rfl, hRm, hSm, hvv, _⟩; obtain ⟨HB, HXA, HV, HR, a0, a1, a2, a3, a4, a5, a6⟩ := keepAll hvv HB HXA HV HR; have HRm := hid hRm; have HSm := hid hSm; have HLm := hid (hSm.fits.2 HSZ.out); clear hRm hSm; clear hvv)
     | (go_at_call 15; (try rw [hW1]); (with_reducible refine (rInt_any _ _ _ _ _ _ HRm.out HSm.out HSZ.out).mono ?_); rintro e vn ⟨nr, pr, cr, wr, rfl, hRr, hSr, _, hvv⟩; obtain ⟨HB, HXA, HV, HR, a0, a1, a2, a3, a4, a5, a6⟩ := keepAll hvv HB HXA HV HR; have HRr := hid hRr; have HSr := hid hSr; clear hRr hSr; obtain ⟨⟨vc0, vc1, vc2, vc3, vc4, vc5, vc6⟩, vf0, vf1, vf2, vf3, vf4, vf5, vf6⟩ := HV.out; clear hvv)
     | fail)
   obtain ⟨z7, zb⟩ := fin7 HV HB (.int .i64 2) (.bool false) (.bool nr) (.slice pr wr.length cr) (.int .u64 0) (.string ⟨#[]⟩) (.slice none 0 0)
   have zr := HRr.out.put7 (k := 0) HV.out.b (.int .i64 2) (.bool false) (.bool nr) (.slice pr wr.length cr) (.string ⟨#[]⟩) (.slice none 0 0)
   unfold put7 at z7 zb zr
   exact bodyPost_ret (v := .tuple #[.agg #[.int .i64 2, .bool false, .bool nr, .slice pr wr.length cr, .int .u64 0, .string ⟨#[]⟩, .slice none 0 0], .int .i64 0]) (by simp [results, Tryz.results11, go_sem, z7.c0, z7.c1, z7.c2, z7.c3, z7.c4, z7.c5, z7.c6]) rfl ⟨nr, pr, cr, wr, rfl, zr, HSr.out, zb⟩
theorem di_f (y n : Bool) (u : Value) (ws : List Int) (b : Nat) (s : ByteArray) (ip : Option Addr) (m ic : Nat) (w : World) (hb : b < 18446744073709551616) (hr : Rd w u ws) (hf : Fit ws) (hm : (m : Int) ≤ 9223372036854775807) (hs : (s.size : Int) ≤ 9223372036854775807) (hg : goodP 3 y n ws b s m = true) (z : Int) (hw : ∀ W, Calls Tryz.prog 42 #[.int .u64 (b : Int)] W (WhM W z)) (q : Nat) :
   Calls Tryz.prog 11 #[.agg #[.int .i64 3, .bool y, .bool n, u, .int .u64 (b : Int), .string s, .slice ip m ic]] w (ValQ q 2 z 0 0 w) := by
 obtain ⟨p, c, rfl, hc, hwm, hp⟩ := rd_form hr
 obtain ⟨W1, hW1, HB, HXA, HV, HLT⟩ := pre1 w (.int .i64 3) (.bool y) (.bool n) (.slice p ws.length c) (.int .u64 (b : Int)) (.string s) (.slice ip m ic)
 have HR := hid (hr.keep HB.out)
 have HWh := hid hw
 clear hr hf hp hb hm hs hg hw
 obtain ⟨a0, a1, a2, a3, a4, a5, a6⟩ := HXA.out
 go_enter Tryz.func11, Tryz.ntmps11
 go_upto_region 9 with (first
   | (go_at_call 42; (try rw [hW1]); (with_reducible refine (HWh.out _).mono ?_); rintro e vn ⟨nr, pr, cr, wr, rfl, hMr, hLr, hSr, hvv⟩; obtain ⟨HB, HXA, HV, HR, a0, a1, a2, a3, a4, a5, a6⟩ := keepAll hvv HB HXA HV HR; have HMr := hid hMr; have HLr := hid hLr; have HSr := hid hSr; clear hMr hLr hSr; obtain ⟨⟨vc0, vc1, vc2, vc3, vc4, vc5, vc6⟩, vf0, vf1, vf2, vf3, vf4, vf5, vf6⟩ := HV.out; clear hvv)
   | fail)
 obtain ⟨V2, hV2⟩ : ∃ x, vn.alloc (.cells #[.bool nr, .slice pr (List.length wr) cr] 24) = x := ⟨_, rfl⟩
 have HV2 := hid (show Below vn.heap.size vn V2 by rw [← hV2]; exact (Below.refl _ _).alloc (Nat.le_refl _) _)
 have HX2 := hid (show Box2 V2 vn.heap.size (.bool nr) (.slice pr wr.length cr) by rw [← hV2]; exact Box2.new _ _ _ _ rfl)
 replace HB := hid (HB.out.trans (HV2.out.mono HB.out.size))
 replace HV := hid (HV.out.keep HV2.out)
 replace HMr := hid (HMr.out.keep HV2.out)
 (try rw [hV2])
 clear hV2
 have xc0 := HX2.out.c0
 have xc1 := HX2.out.c1
 obtain ⟨⟨vc0, vc1, vc2, vc3, vc4, vc5, vc6⟩, vf0, vf1, vf2, vf3, vf4, vf5, vf6⟩ := HV.out
 go_wp2_with fail
 obtain ⟨z7, zb⟩ := fin7 HV HB (.int .i64 2) (.bool false) (.bool nr) (.slice pr wr.length cr) (.int .u64 0) (.string ⟨#[]⟩) (.slice none 0 0)
 have zm := put7_mu HMr.out HLT.out (.int .i64 2) (.bool false) (.bool nr) (.slice pr wr.length cr) (.int .u64 0) (.string ⟨#[]⟩) (.slice none 0 0)
 unfold put7 at z7 zb zm
 exact bodyPost_ret (v := .tuple #[.agg #[.int .i64 2, .bool false, .bool nr, .slice pr wr.length cr, .int .u64 0, .string ⟨#[]⟩, .slice none 0 0], .int .i64 0]) (by simp [results, Tryz.results11, go_sem, z7.c0, z7.c1, z7.c2, z7.c3, z7.c4, z7.c5, z7.c6]) rfl ⟨nr, pr, cr, wr, rfl, zm.rd (by have := HLr.out; omega), HSr.out, .inr (zm.low (by have := HLT.out; omega)), zb⟩
theorem di_fbad (y n : Bool) (u : Value) (ws : List Int) (b : Nat) (s : ByteArray) (ip : Option Addr) (m ic : Nat) (w : World) (hb : b < 18446744073709551616) (hr : Rd w u ws) (hf : Fit ws) (hm : (m : Int) ≤ 9223372036854775807) (hs : (s.size : Int) ≤ 9223372036854775807) (hg : goodP 3 y n ws b s m = true) (x : Int) (hw : ∀ W, Calls Tryz.prog 42 #[.int .u64 (b : Int)] W fun e w' => e = .returned (.tuple #[.agg #[.bool false, .slice none 0 0], .int .i64 x]) ∧ Below W.heap.size W w') (hx : x ≠ 0) (q : Nat) :
   Calls Tryz.prog 11 #[.agg #[.int .i64 3, .bool y, .bool n, u, .int .u64 (b : Int), .string s, .slice ip m ic]] w (ValQ q 0 0 0 x w) := by
 obtain ⟨p, c, rfl, hc, hwm, hp⟩ := rd_form hr
 obtain ⟨W1, hW1, HB, HXA, HV, HLT⟩ := pre1 w (.int .i64 3) (.bool y) (.bool n) (.slice p ws.length c) (.int .u64 (b : Int)) (.string s) (.slice ip m ic)
 have HR := hid (hr.keep HB.out)
 have HWh := hid hw
 have q0 : (x != 0) = true := by simpa using hx
 clear hr hf hp hb hm hs hg hw hx
 obtain ⟨a0, a1, a2, a3, a4, a5, a6⟩ := HXA.out
 go_enter Tryz.func11, Tryz.ntmps11
 go_upto_region 8 with (first
   | (go_at_call 42; (try rw [hW1]); (with_reducible refine (HWh.out _).mono ?_); rintro e vn ⟨rfl, hvv⟩; obtain ⟨HB, HXA, HV, HR, a0, a1, a2, a3, a4, a5, a6⟩ := keepAll hvv HB HXA HV HR; obtain ⟨⟨vc0, vc1, vc2, vc3, vc4, vc5, vc6⟩, vf0, vf1, vf2, vf3, vf4, vf5, vf6⟩ := HV.out; clear hvv)
   | fail)
 obtain ⟨V2, hV2⟩ : ∃ x, vn.alloc (.cells #[.bool false, .slice none 0 0] 24) = x := ⟨_, rfl⟩
 have HV2 := hid (show Below vn.heap.size vn V2 by rw [← hV2]; exact (Below.refl _ _).alloc (Nat.le_refl _) _)
 replace HB := hid (HB.out.trans (HV2.out.mono HB.out.size))
 replace HV := hid (HV.out.keep HV2.out)
 (try rw [hV2])
 clear hV2
 obtain ⟨⟨vc0, vc1, vc2, vc3, vc4, vc5, vc6⟩, vf0, vf1, vf2, vf3, vf4, vf5, vf6⟩ := HV.out
 go_wp2_with fail
 obtain ⟨z7, zb⟩ := fin7 HV HB (.int .i64 0) (.bool false) (.bool false) (.slice none 0 0) (.int .u64 0) (.string ⟨#[]⟩) (.slice none 0 0)
 unfold put7 at z7 zb
 exact bodyPost_ret (v := .tuple #[.agg #[.int .i64 0, .bool false, .bool false, .slice none 0 0, .int .u64 0, .string ⟨#[]⟩, .slice none 0 0], .int .i64 x]) (by simp [results, Tryz.results11, go_sem, z7.c0, z7.c1, z7.c2, z7.c3, z7.c4, z7.c5, z7.c6]) rfl (valq_none zb)
theorem tq_ok {b : Int} {s : ByteArray} {neg : Bool} {ds : List Int} {f : Int} (h : TQ b s neg ds f) (hok : OkT s ∧ Small (numT s)) : f = 0 ∧ Sgn b neg ds (numT s) := by
 rcases h with ⟨h, _⟩ | ⟨_, h, _⟩ | ⟨_, _, h1, h2⟩
 · exact absurd hok.1 h
 · exact absurd hok.2 h
 · exact ⟨h1, h2⟩
theorem tq_bad {b : Int} {s : ByteArray} {neg : Bool} {ds : List Int} {f : Int} (h : TQ b s neg ds f) (hok : ¬ (OkT s ∧ Small (numT s))) : (f != 0) = true := by
 rcases h with ⟨_, _, _, h⟩ | ⟨_, _, _, _, h⟩ | ⟨h1, h2, _⟩
 · subst h; rfl
 · subst h; rfl
 · exact absurd ⟨h1, h2⟩ hok
theorem di_s (y n : Bool) (u : Value) (ws : List Int) (b : Nat) (s : ByteArray) (ip : Option Addr) (m ic : Nat) (w : World) (hb : b < 18446744073709551616) (hr : Rd w u ws) (hf : Fit ws) (hm : (m : Int) ≤ 9223372036854775807) (hs : (s.size : Int) ≤ 9223372036854775807) (hg : goodP 4 y n ws b s m = true) (hok : OkT s ∧ Small (numT s)) :
   Calls Tryz.prog 11 #[.agg #[.int .i64 4, .bool y, .bool n, u, .int .u64 (b : Int), .string s, .slice ip m ic]] w (ValP 2 (numT s) 0 0 w) := by
 obtain ⟨p, c, rfl, hc, hwm, hp⟩ := rd_form hr
 obtain ⟨W1, hW1, HB, HXA, HV, HLT⟩ := pre1 w (.int .i64 4) (.bool y) (.bool n) (.slice p ws.length c) (.int .u64 (b : Int)) (.string s) (.slice ip m ic)
 have HR := hid (hr.keep HB.out)
 have hsz := good_len hg rfl
 have HP := hid (fun (W : World) => read_any s W (by omega))
 have HOK := hid hok
 clear hr hf hp hb hm hs hg hok hsz
 obtain ⟨a0, a1, a2, a3, a4, a5, a6⟩ := HXA.out
 go_enter Tryz.func11, Tryz.ntmps11
 go_wp2_with (first
   | (go_at_call 43; (try rw [hW1]); (with_reducible refine (HP.out _).mono ?_); rintro e vn ⟨nq, uq, dq, fq, rfl, hRq, hTq, hvv⟩; obtain ⟨HB, HXA, HV, HR, a0, a1, a2, a3, a4, a5, a6⟩ := keepAll hvv HB HXA HV HR; obtain ⟨pq, cq, rfl, _, _, _⟩ := rb_form hRq; obtain ⟨rfl, hSq⟩ := tq_ok hTq HOK.out; have HSq := hid hSq; have HRq0 := hid hRq; clear hRq hTq hSq; obtain ⟨V2, hV2⟩ : ∃ x, vn.alloc (.cells #[.bool nq, .slice pq (List.length dq) cq] 45) = x := ⟨_, rfl⟩; have HV2 := hid (show Below vn.heap.size vn V2 by rw [← hV2]; exact (Below.refl _ _).alloc (Nat.le_refl _) _); replace HB := hid (HB.out.trans (HV2.out.mono HB.out.size)); have HX2 := hid (show Box2 V2 vn.heap.size (.bool nq) (.slice pq (List.length dq) cq) by rw [← hV2]; exact Box2.new _ _ _ _ rfl); have x0 := HX2.out.c0; have x1 := HX2.out.c1; replace HV := hid (HV.out.keep HV2.out); have HRq := hid (HRq0.out.keep HV2.out); clear HRq0; clear hvv)
   | (go_at_call 15; (try rw [hV2]); (with_reducible refine (rInt_any _ _ _ _ _ _ HRq.out HSq.out HOK.out.2).mono ?_); rintro e vq ⟨nr, pr, cr, wr, rfl, hRr, hSr, _, hvv⟩; replace HB := hid (HB.out.trans (hvv.mono HB.out.size)); replace HV := hid (HV.out.keep hvv); have HRr := hid hRr; have HSr := hid hSr; clear hRr hSr; obtain ⟨⟨vc0, vc1, vc2, vc3, vc4, vc5, vc6⟩, vf0, vf1, vf2, vf3, vf4, vf5, vf6⟩ := HV.out; clear hvv)
   | fail)
 (try rw [hV2])
 obtain ⟨z7, zb⟩ := fin7 HV HB (.int .i64 2) (.bool false) (.bool nr) (.slice pr wr.length cr) (.int .u64 0) (.string ⟨#[]⟩) (.slice none 0 0)
 have zr := HRr.out.put7 (k := 0) HV.out.b (.int .i64 2) (.bool false) (.bool nr) (.slice pr wr.length cr) (.string ⟨#[]⟩) (.slice none 0 0)
 unfold put7 at z7 zb zr
 exact bodyPost_ret (v := .tuple #[.agg #[.int .i64 2, .bool false, .bool nr, .slice pr wr.length cr, .int .u64 0, .string ⟨#[]⟩, .slice none 0 0], .int .i64 0]) (by simp [results, Tryz.results11, go_sem, z7.c0, z7.c1, z7.c2, z7.c3, z7.c4, z7.c5, z7.c6]) rfl ⟨nr, pr, cr, wr, rfl, zr, HSr.out, zb⟩
theorem di_sbad (y n : Bool) (u : Value) (ws : List Int) (b : Nat) (s : ByteArray) (ip : Option Addr) (m ic : Nat) (w : World) (hb : b < 18446744073709551616) (hr : Rd w u ws) (hf : Fit ws) (hm : (m : Int) ≤ 9223372036854775807) (hs : (s.size : Int) ≤ 9223372036854775807) (hg : goodP 4 y n ws b s m = true) (hok : ¬ (OkT s ∧ Small (numT s))) :
   Calls Tryz.prog 11 #[.agg #[.int .i64 4, .bool y, .bool n, u, .int .u64 (b : Int), .string s, .slice ip m ic]] w (ValP 0 0 0 4 w) := by
 obtain ⟨p, c, rfl, hc, hwm, hp⟩ := rd_form hr
 obtain ⟨W1, hW1, HB, HXA, HV, HLT⟩ := pre1 w (.int .i64 4) (.bool y) (.bool n) (.slice p ws.length c) (.int .u64 (b : Int)) (.string s) (.slice ip m ic)
 have HR := hid (hr.keep HB.out)
 have hsz := good_len hg rfl
 have HP := hid (fun (W : World) => read_any s W (by omega))
 have HOK := hid hok
 clear hr hf hp hb hm hs hg hok hsz
 obtain ⟨a0, a1, a2, a3, a4, a5, a6⟩ := HXA.out
 go_enter Tryz.func11, Tryz.ntmps11
 go_wp2_with (first
   | (go_at_call 43; (try rw [hW1]); (with_reducible refine (HP.out _).mono ?_); rintro e vn ⟨nq, uq, dq, fq, rfl, hRq, hTq, hvv⟩; obtain ⟨HB, HXA, HV, HR, a0, a1, a2, a3, a4, a5, a6⟩ := keepAll hvv HB HXA HV HR; obtain ⟨pq, cq, rfl, _, _, _⟩ := rb_form hRq; have q0 := tq_bad hTq HOK.out; clear hRq hTq; obtain ⟨V2, hV2⟩ : ∃ x, vn.alloc (.cells #[.bool nq, .slice pq (List.length dq) cq] 45) = x := ⟨_, rfl⟩; have HV2 := hid (show Below vn.heap.size vn V2 by rw [← hV2]; exact (Below.refl _ _).alloc (Nat.le_refl _) _); replace HB := hid (HB.out.trans (HV2.out.mono HB.out.size)); have HX2 := hid (show Box2 V2 vn.heap.size (.bool nq) (.slice pq (List.length dq) cq) by rw [← hV2]; exact Box2.new _ _ _ _ rfl); have x0 := HX2.out.c0; have x1 := HX2.out.c1; replace HV := hid (HV.out.keep HV2.out); obtain ⟨⟨vc0, vc1, vc2, vc3, vc4, vc5, vc6⟩, vf0, vf1, vf2, vf3, vf4, vf5, vf6⟩ := HV.out; clear hvv)
   | fail)
 (try rw [hV2])
 obtain ⟨z7, zb⟩ := fin7 HV HB (.int .i64 0) (.bool false) (.bool false) (.slice none 0 0) (.int .u64 0) (.string ⟨#[]⟩) (.slice none 0 0)
 unfold put7 at z7 zb
 exact bodyPost_ret (v := .tuple #[.agg #[.int .i64 0, .bool false, .bool false, .slice none 0 0, .int .u64 0, .string ⟨#[]⟩, .slice none 0 0], .int .i64 4]) (by simp [results, Tryz.results11, go_sem, z7.c0, z7.c1, z7.c2, z7.c3, z7.c4, z7.c5, z7.c6]) rfl (ValP.none zb)
theorem tq_badx {b : Int} {s : ByteArray} {neg : Bool} {ds : List Int} {f : Int} (h : TQ b s neg ds f) (hok : ¬ (OkT s ∧ Small (numT s))) : (if f = 2 then 4 else f) = (4 : Int) := by
 rcases h with ⟨_, _, _, h⟩ | ⟨_, _, _, _, h⟩ | ⟨h1, h2, _⟩
 · subst h; rfl
 · subst h; rfl
 · exact absurd ⟨h1, h2⟩ hok
theorem put7_one {w : World} {B A : Nat} {a0 a1 : Value} (h : w.cell? ⟨A, 0, none⟩ = some a0 ∧ w.cell? ⟨A, 1, none⟩ = some a1) (n1 : B ≠ A) (v0 v1 v2 v3 v4 v5 v6 : Value) :
   (put7 w B v0 v1 v2 v3 v4 v5 v6).cell? ⟨A, 0, none⟩ = some a0 ∧ (put7 w B v0 v1 v2 v3 v4 v5 v6).cell? ⟨A, 1, none⟩ = some a1 := ⟨put7_far h.1 n1 _ _ _ _ _ _ _, put7_far h.2 n1 _ _ _ _ _ _ _⟩
theorem ti_s (y n : Bool) (u : Value) (ws : List Int) (b : Nat) (s : ByteArray) (ip : Option Addr) (m ic : Nat) (w : World) (hb : b < 18446744073709551616) (hr : Rd w u ws) (hf : Fit ws) (hm : (m : Int) ≤ 9223372036854775807) (hs : (s.size : Int) ≤ 9223372036854775807) (hg : goodP 4 y n ws b s m = true) (hok : OkT s ∧ Small (numT s)) :
   Calls Tryz.prog 6 #[.agg #[.int .i64 4, .bool y, .bool n, u, .int .u64 (b : Int), .string s, .slice ip m ic]] w (ValP 2 (numT s) 0 0 w) := by
 obtain ⟨p, c, rfl, hc, hwm, hp⟩ := rd_form hr
 obtain ⟨W1, hW1, HB, HXA, HV, HLT⟩ := pre1 w (.int .i64 4) (.bool y) (.bool n) (.slice p ws.length c) (.int .u64 (b : Int)) (.string s) (.slice ip m ic)
 have HR := hid (hr.keep HB.out)
 have hsz := good_len hg rfl
 have HP := hid (fun (W : World) => parse_any s W (by omega))
 have HG := hid (fun (W : World) (hx : Rd W (.slice p ws.length c) ws) => good15_any 4 y n _ ws b s ip m ic W hb hx hf hm hs)
 rw [hg] at HG
 have HW := hid (fun (W : World) => isWhole_any 4 y n (.slice p ws.length c) b s (.slice ip m ic) W)
 rw [show wholeP 4 = false from (by decide)] at HW
 have HOK := hid hok
 clear hr hf hp hb hm hs hg hok hsz
 obtain ⟨a0, a1, a2, a3, a4, a5, a6⟩ := HXA.out
 go_enter Tryz.func6, Tryz.ntmps6
 go_upto_region 9 with (first
   | (go_at_call 23; (try rw [hW1]); (with_reducible refine (HG.out _ HR.out).mono ?_); rintro e vn ⟨rfl, hvv⟩; obtain ⟨HB, HXA, HV, HR, a0, a1, a2, a3, a4, a5, a6⟩ := keepAll hvv HB HXA HV HR; clear hvv)
   | (go_at_call 32; (try rw [hW1]); (with_reducible refine (HW.out _).mono ?_); rintro e vn ⟨rfl, hvv⟩; obtain ⟨HB, HXA, HV, HR, a0, a1, a2, a3, a4, a5, a6⟩ := keepAll hvv HB HXA HV HR; clear hvv)
   | (go_at_call 34; (try rw [hW1]); (with_reducible refine (HP.out _).mono ?_); rintro e vn ⟨nr, ur, wr, fr, rfl, hMr, hQr, hvv⟩; obtain ⟨HB, HXA, HV, HR, a0, a1, a2, a3, a4, a5, a6⟩ := keepAll hvv HB HXA HV HR; obtain ⟨pr, cr, rfl⟩ := MU.form hMr; obtain ⟨rfl, hSr⟩ := tq_ok hQr HOK.out; have HSr := hid hSr; have HRr := hid (hMr.rd (by have := hSr.small.2 HOK.out.2; omega)); clear hMr hQr hSr; clear hvv)
   | fail)
 obtain ⟨V2, hV2⟩ : ∃ x, vn.alloc (.cells #[.bool nr, .slice pr (List.length wr) cr] 24) = x := ⟨_, rfl⟩
 have HV2 := hid (show Below vn.heap.size vn V2 by rw [← hV2]; exact (Below.refl _ _).alloc (Nat.le_refl _) _)
 have HX2 := hid (show Box2 V2 vn.heap.size (.bool nr) (.slice pr wr.length cr) by rw [← hV2]; exact Box2.new _ _ _ _ rfl)
 have HLV := hid (World.block_lt_of_cell? _ _ HV.out.b.c0)
 replace HB := hid (HB.out.trans (HV2.out.mono HB.out.size))
 replace HV := hid (HV.out.keep HV2.out)
 (try rw [hV2])
 clear hV2
 replace HRr := hid (HRr.out.keep HV2.out)
 have x0 := HX2.out.c0
 have x1 := HX2.out.c1
 obtain ⟨⟨vc0, vc1, vc2, vc3, vc4, vc5, vc6⟩, vf0, vf1, vf2, vf3, vf4, vf5, vf6⟩ := HV.out
 have HT := hid (fun (W : World) => textually_any 0 W)
 rw [show (if (0 : Int) = 2 then 4 else 0) = (0 : Int) by decide] at HT
 go_region_held3 (fun w' => w'.cell? ⟨vn.heap.size, 0, none⟩ = some (.bool nr) ∧ w'.cell? ⟨vn.heap.size, 1, none⟩ = some (.slice pr wr.length cr))
   (first | ((repeat' (first | with_reducible assumption | apply And.intro | with_reducible refine drew_cell ?_)); done) | ((with_reducible refine put7_one (B := w.heap.size + 1) (A := vn.heap.size) ?_ (by have := HLV.out; omega) _ _ _ _ _ _ _); ((repeat' (first | with_reducible assumption | apply And.intro)); done)) | fail)
   (first
    | (go_at_call 35; (with_reducible refine (HT.out _).mono ?_); rintro e w9 ⟨rfl, rfl⟩)
    | (go_at_call 28; (with_reducible refine (ints_ok nr pr wr.length cr _).mono ?_); rintro e v5 ⟨rfl, hvv⟩; have hvw := Below.trans (drewM (Below.refl V2.heap.size V2)) hvv; replace HB := hid (HB.out.trans (hvw.mono HB.out.size)); replace HV := hid (HV.out.keep hvw); replace x0 := bcl hvw x0; replace x1 := bcl hvw x1; replace HRr := hid (HRr.out.keep hvw); clear vc0 vc1 vc2 vc3 vc4 vc5 vc6 vf0 vf1 vf2 vf3 vf4 vf5 vf6; obtain ⟨⟨vc0, vc1, vc2, vc3, vc4, vc5, vc6⟩, vf0, vf1, vf2, vf3, vf4, vf5, vf6⟩ := HV.out; clear hvv hvw)
    | fail)
 obtain ⟨z7, zb⟩ := fin7 HV HB (.int .i64 2) (.bool false) (.bool nr) (.slice pr wr.length cr) (.int .u64 0) (.string ⟨#[]⟩) (.slice none 0 0)
 have zr := HRr.out.put7 (k := 0) HV.out.b (.int .i64 2) (.bool false) (.bool nr) (.slice pr wr.length cr) (.string ⟨#[]⟩) (.slice none 0 0)
 unfold put7 at z7 zb zr
 go_wp2_with fail
 exact bodyPost_ret (v := .tuple #[.agg #[.int .i64 2, .bool false, .bool nr, .slice pr wr.length cr, .int .u64 0, .string ⟨#[]⟩, .slice none 0 0], .int .i64 0]) (by simp [results, Tryz.results6, go_sem, z7.c0, z7.c1, z7.c2, z7.c3, z7.c4, z7.c5, z7.c6]) rfl ⟨nr, pr, cr, wr, rfl, zr, HSr.out, zb⟩
theorem ti_sbad (y n : Bool) (u : Value) (ws : List Int) (b : Nat) (s : ByteArray) (ip : Option Addr) (m ic : Nat) (w : World) (hb : b < 18446744073709551616) (hr : Rd w u ws) (hf : Fit ws) (hm : (m : Int) ≤ 9223372036854775807) (hs : (s.size : Int) ≤ 9223372036854775807) (hg : goodP 4 y n ws b s m = true) (hok : ¬ (OkT s ∧ Small (numT s))) :
   Calls Tryz.prog 6 #[.agg #[.int .i64 4, .bool y, .bool n, u, .int .u64 (b : Int), .string s, .slice ip m ic]] w (ValP 0 0 0 4 w) := by
 obtain ⟨p, c, rfl, hc, hwm, hp⟩ := rd_form hr
 obtain ⟨W1, hW1, HB, HXA, HV, HLT⟩ := pre1 w (.int .i64 4) (.bool y) (.bool n) (.slice p ws.length c) (.int .u64 (b : Int)) (.string s) (.slice ip m ic)
 have HR := hid (hr.keep HB.out)
 have hsz := good_len hg rfl
 have HP := hid (fun (W : World) => parse_any s W (by omega))
 have HG := hid (fun (W : World) (hx : Rd W (.slice p ws.length c) ws) => good15_any 4 y n _ ws b s ip m ic W hb hx hf hm hs)
 rw [hg] at HG
 have HW := hid (fun (W : World) => isWhole_any 4 y n (.slice p ws.length c) b s (.slice ip m ic) W)
 rw [show wholeP 4 = false from (by decide)] at HW
 have HOK := hid hok
 clear hr hf hp hb hm hs hg hok hsz
 obtain ⟨a0, a1, a2, a3, a4, a5, a6⟩ := HXA.out
 go_enter Tryz.func6, Tryz.ntmps6
 go_upto_region 9 with (first
   | (go_at_call 23; (try rw [hW1]); (with_reducible refine (HG.out _ HR.out).mono ?_); rintro e vn ⟨rfl, hvv⟩; obtain ⟨HB, HXA, HV, HR, a0, a1, a2, a3, a4, a5, a6⟩ := keepAll hvv HB HXA HV HR; clear hvv)
   | (go_at_call 32; (try rw [hW1]); (with_reducible refine (HW.out _).mono ?_); rintro e vn ⟨rfl, hvv⟩; obtain ⟨HB, HXA, HV, HR, a0, a1, a2, a3, a4, a5, a6⟩ := keepAll hvv HB HXA HV HR; clear hvv)
   | (go_at_call 34; (try rw [hW1]); (with_reducible refine (HP.out _).mono ?_); rintro e vn ⟨nr, ur, wr, fr, rfl, hMr, hQr, hvv⟩; obtain ⟨HB, HXA, HV, HR, a0, a1, a2, a3, a4, a5, a6⟩ := keepAll hvv HB HXA HV HR; obtain ⟨pr, cr, rfl⟩ := MU.form hMr; have hQ4 := tq_badx hQr HOK.out; have hQ5 := tq_bad hQr HOK.out; have HT := hid (fun (W : World) => textually_any fr W); rw [hQ4] at HT; clear hQ4 hMr hQr hQ5; clear hvv)
   | fail)
 obtain ⟨V2, hV2⟩ : ∃ x, vn.alloc (.cells #[.bool nr, .slice pr (List.length wr) cr] 24) = x := ⟨_, rfl⟩
 have HV2 := hid (show Below vn.heap.size vn V2 by rw [← hV2]; exact (Below.refl _ _).alloc (Nat.le_refl _) _)
 have HX2 := hid (show Box2 V2 vn.heap.size (.bool nr) (.slice pr wr.length cr) by rw [← hV2]; exact Box2.new _ _ _ _ rfl)
 have HLV := hid (World.block_lt_of_cell? _ _ HV.out.b.c0)
 replace HB := hid (HB.out.trans (HV2.out.mono HB.out.size))
 replace HV := hid (HV.out.keep HV2.out)
 (try rw [hV2])
 clear hV2
 have x0 := HX2.out.c0
 have x1 := HX2.out.c1
 obtain ⟨⟨vc0, vc1, vc2, vc3, vc4, vc5, vc6⟩, vf0, vf1, vf2, vf3, vf4, vf5, vf6⟩ := HV.out
 go_region_held3 (fun w' => w'.cell? ⟨vn.heap.size, 0, none⟩ = some (.bool nr) ∧ w'.cell? ⟨vn.heap.size, 1, none⟩ = some (.slice pr wr.length cr))
   (first | ((repeat' (first | with_reducible assumption | apply And.intro | with_reducible refine drew_cell ?_)); done) | ((with_reducible refine put7_one (B := w.heap.size + 1) (A := vn.heap.size) ?_ (by have := HLV.out; omega) _ _ _ _ _ _ _); ((repeat' (first | with_reducible assumption | apply And.intro)); done)) | fail)
   (first
    | (go_at_call 35; (with_reducible refine (HT.out _).mono ?_); rintro e w9 ⟨rfl, rfl⟩)
    | (go_at_call 28; (with_reducible refine (ints_bad nr pr wr.length cr 4 (by decide) _).mono ?_); rintro e v5 ⟨rfl, hvv⟩; have hvw := Below.trans (drewM (Below.refl V2.heap.size V2)) hvv; replace HB := hid (HB.out.trans (hvw.mono HB.out.size)); replace HV := hid (HV.out.keep hvw); replace x0 := bcl hvw x0; replace x1 := bcl hvw x1; clear vc0 vc1 vc2 vc3 vc4 vc5 vc6 vf0 vf1 vf2 vf3 vf4 vf5 vf6; obtain ⟨⟨vc0, vc1, vc2, vc3, vc4, vc5, vc6⟩, vf0, vf1, vf2, vf3, vf4, vf5, vf6⟩ := HV.out; clear hvv hvw)
    | fail)
 obtain ⟨z7, zb⟩ := fin7 HV HB (.int .i64 0) (.bool false) (.bool false) (.slice none 0 0) (.int .u64 0) (.string ⟨#[]⟩) (.slice none 0 0)
 unfold put7 at z7 zb
 go_wp2_with fail
 exact bodyPost_ret (v := .tuple #[.agg #[.int .i64 0, .bool false, .bool false, .slice none 0 0, .int .u64 0, .string ⟨#[]⟩, .slice none 0 0], .int .i64 4]) (by simp [results, Tryz.results6, go_sem, z7.c0, z7.c1, z7.c2, z7.c3, z7.c4, z7.c5, z7.c6]) rfl (ValP.none zb)
theorem df_none (y n : Bool) (u : Value) (ws : List Int) (b : Nat) (s : ByteArray) (ip : Option Addr) (m ic : Nat) (w : World) (hb : b < 18446744073709551616) (hr : Rd w u ws) (hf : Fit ws) (hm : (m : Int) ≤ 9223372036854775807) (hs : (s.size : Int) ≤ 9223372036854775807) (hg : goodP 0 y n ws b s m = true) :
   Calls Tryz.prog 12 #[.agg #[.int .i64 0, .bool y, .bool n, u, .int .u64 (b : Int), .string s, .slice ip m ic]] w (ValP 0 0 0 9 w) := by
 obtain ⟨p, c, rfl, hc, hwm, hp⟩ := rd_form hr
 obtain ⟨W1, hW1, HB, HXA, HV, HLT⟩ := pre1 w (.int .i64 0) (.bool y) (.bool n) (.slice p ws.length c) (.int .u64 (b : Int)) (.string s) (.slice ip m ic)
 have HR := hid (hr.keep HB.out)
 have HN := hid (fun (W : World) => number15_any 0 y n (.slice p ws.length c) b s (.slice ip m ic) W)
 rw [show numP 0 = false from (by decide)] at HN
 clear hr hf hp hb hm hs hg
 obtain ⟨a0, a1, a2, a3, a4, a5, a6⟩ := HXA.out
 go_enter Tryz.func12, Tryz.ntmps12
 go_wp2_with (first
   | (go_at_call 38; (try rw [hW1]); (with_reducible refine (HN.out _).mono ?_); rintro e vn ⟨rfl, hvv⟩; obtain ⟨HB, HXA, HV, HR, a0, a1, a2, a3, a4, a5, a6⟩ := keepAll hvv HB HXA HV HR; obtain ⟨⟨vc0, vc1, vc2, vc3, vc4, vc5, vc6⟩, vf0, vf1, vf2, vf3, vf4, vf5, vf6⟩ := HV.out; clear hvv)
   | fail)
 obtain ⟨z7, zb⟩ := fin7 HV HB (.int .i64 0) (.bool false) (.bool false) (.slice none 0 0) (.int .u64 0) (.string ⟨#[]⟩) (.slice none 0 0)
 unfold put7 at z7 zb
 exact bodyPost_ret (v := .tuple #[.agg #[.int .i64 0, .bool false, .bool false, .slice none 0 0, .int .u64 0, .string ⟨#[]⟩, .slice none 0 0], .int .i64 9]) (by simp [results, Tryz.results12, go_sem, z7.c0, z7.c1, z7.c2, z7.c3, z7.c4, z7.c5, z7.c6]) rfl (ValP.none zb)
theorem df_f (y n : Bool) (u : Value) (ws : List Int) (b : Nat) (s : ByteArray) (ip : Option Addr) (m ic : Nat) (w : World) (hb : b < 18446744073709551616) (hr : Rd w u ws) (hf : Fit ws) (hm : (m : Int) ≤ 9223372036854775807) (hs : (s.size : Int) ≤ 9223372036854775807) (hg : goodP 3 y n ws b s m = true) :
   Calls Tryz.prog 12 #[.agg #[.int .i64 3, .bool y, .bool n, u, .int .u64 (b : Int), .string s, .slice ip m ic]] w (ValP 3 0 (patB b) 0 w) := by
 obtain ⟨p, c, rfl, hc, hwm, hp⟩ := rd_form hr
 obtain ⟨W1, hW1, HB, HXA, HV, HLT⟩ := pre1 w (.int .i64 3) (.bool y) (.bool n) (.slice p ws.length c) (.int .u64 (b : Int)) (.string s) (.slice ip m ic)
 have HR := hid (hr.keep HB.out)
 have HF := hid (fun (W : World) (hx : Rd W (.slice p ws.length c) ws) => tobits_f y n _ ws b s ip m ic W hb hx hf hm hs)
 have HFl := hid (fun (W : World) => rFloat_any b hb W)
 have HN := hid (fun (W : World) => number15_any 3 y n (.slice p ws.length c) b s (.slice ip m ic) W)
 rw [show numP 3 = true from (by decide)] at HN
 clear hr hf hp hb hm hs hg
 obtain ⟨a0, a1, a2, a3, a4, a5, a6⟩ := HXA.out
 go_enter Tryz.func12, Tryz.ntmps12
 go_wp2_with (first
   | (go_at_call 38; (try rw [hW1]); (with_reducible refine (HN.out _).mono ?_); rintro e vn ⟨rfl, hvv⟩; obtain ⟨HB, HXA, HV, HR, a0, a1, a2, a3, a4, a5, a6⟩ := keepAll hvv HB HXA HV HR; clear hvv)
   | (go_at_call 44; (try rw [hW1]); (with_reducible refine (HF.out _ HR.out).mono ?_); rintro e vn ⟨rfl, hvv⟩; obtain ⟨HB, HXA, HV, HR, a0, a1, a2, a3, a4, a5, a6⟩ := keepAll hvv HB HXA HV HR; clear hvv)
   | (go_at_call 22; (try rw [hW1]); (with_reducible refine (HFl.out _).mono ?_); rintro e vn ⟨rfl, hvv⟩; obtain ⟨HB, HXA, HV, HR, a0, a1, a2, a3, a4, a5, a6⟩ := keepAll hvv HB HXA HV HR; obtain ⟨⟨vc0, vc1, vc2, vc3, vc4, vc5, vc6⟩, vf0, vf1, vf2, vf3, vf4, vf5, vf6⟩ := HV.out; clear hvv)
   | fail)
 obtain ⟨z7, zb⟩ := fin7 HV HB (.int .i64 3) (.bool false) (.bool false) (.slice none 0 0) (.int .u64 ((patB b : Nat) : Int)) (.string ⟨#[]⟩) (.slice none 0 0)
 unfold put7 at z7 zb
 exact bodyPost_ret (v := .tuple #[.agg #[.int .i64 3, .bool false, .bool false, .slice none 0 0, .int .u64 ((patB b : Nat) : Int), .string ⟨#[]⟩, .slice none 0 0], .int .i64 0]) (by simp [results, Tryz.results12, go_sem, z7.c0, z7.c1, z7.c2, z7.c3, z7.c4, z7.c5, z7.c6]) rfl (ValP.none zb)
theorem df_w (k : Int) (y n : Bool) (u : Value) (ws : List Int) (b : Nat) (s : ByteArray) (ip : Option Addr) (m ic : Nat) (w : World) (hb : b < 18446744073709551616) (hr : Rd w u ws) (hf : Fit ws) (hm : (m : Int) ≤ 9223372036854775807) (hs : (s.size : Int) ≤ 9223372036854775807) (hk : k = 1 ∨ k = 2) (hg : goodP k y n ws b s m = true) {B0 : Nat} (hBB : patB B0 = B0 ∧ B0 < 18446744073709551616) (ho : OFH (zP k y n ws) B0 0 w) :
   Calls Tryz.prog 12 #[.agg #[.int .i64 k, .bool y, .bool n, u, .int .u64 (b : Int), .string s, .slice ip m ic]] w (ValP 3 0 B0 0 w) := by
 obtain ⟨p, c, rfl, hc, hwm, hp⟩ := rd_form hr
 obtain ⟨W1, hW1, HB, HXA, HV, HLT⟩ := pre1 w (.int .i64 k) (.bool y) (.bool n) (.slice p ws.length c) (.int .u64 (b : Int)) (.string s) (.slice ip m ic)
 have HR := hid (hr.keep HB.out)
 have HF := hid (fun (W : World) (hx : Rd W (.slice p ws.length c) ws) (h : OFH (zP k y n ws) B0 0 W) => tobits_w k y n _ ws b s ip m ic W hb hx hf hm hs hk hg h)
 have HO := hid (ho.keep HB.out)
 have HFl := hid (fun (W : World) => rFloat_any B0 hBB.2 W)
 rw [hBB.1] at HFl
 have HN := hid (fun (W : World) => number15_any k y n (.slice p ws.length c) b s (.slice ip m ic) W)
 rw [show numP k = true from (by rcases hk with rfl | rfl <;> rfl)] at HN
 clear hr hf hp hb hm hs hg hk ho hBB
 obtain ⟨a0, a1, a2, a3, a4, a5, a6⟩ := HXA.out
 go_enter Tryz.func12, Tryz.ntmps12
 go_wp2_with (first
   | (go_at_call 38; (try rw [hW1]); (with_reducible refine (HN.out _).mono ?_); rintro e vn ⟨rfl, hvv⟩; obtain ⟨HB, HXA, HV, HR, a0, a1, a2, a3, a4, a5, a6⟩ := keepAll hvv HB HXA HV HR; replace HO := hid (HO.out.keep hvv); clear hvv)
   | (go_at_call 44; (try rw [hW1]); (with_reducible refine (HF.out _ HR.out HO.out).mono ?_); rintro e vn ⟨rfl, hvv⟩; obtain ⟨HB, HXA, HV, HR, a0, a1, a2, a3, a4, a5, a6⟩ := keepAll hvv HB HXA HV HR; clear hvv)
   | (go_at_call 22; (try rw [hW1]); (with_reducible refine (HFl.out _).mono ?_); rintro e vn ⟨rfl, hvv⟩; obtain ⟨HB, HXA, HV, HR, a0, a1, a2, a3, a4, a5, a6⟩ := keepAll hvv HB HXA HV HR; obtain ⟨⟨vc0, vc1, vc2, vc3, vc4, vc5, vc6⟩, vf0, vf1, vf2, vf3, vf4, vf5, vf6⟩ := HV.out; clear hvv)
   | fail)
 obtain ⟨z7, zb⟩ := fin7 HV HB (.int .i64 3) (.bool false) (.bool false) (.slice none 0 0) (.int .u64 (B0 : Int)) (.string ⟨#[]⟩) (.slice none 0 0)
 unfold put7 at z7 zb
 exact bodyPost_ret (v := .tuple #[.agg #[.int .i64 3, .bool false, .bool false, .slice none 0 0, .int .u64 (B0 : Int), .string ⟨#[]⟩, .slice none 0 0], .int .i64 0]) (by simp [results, Tryz.results12, go_sem, z7.c0, z7.c1, z7.c2, z7.c3, z7.c4, z7.c5, z7.c6]) rfl (ValP.none zb)
theorem df_wbad (k : Int) (y n : Bool) (u : Value) (ws : List Int) (b : Nat) (s : ByteArray) (ip : Option Addr) (m ic : Nat) (w : World) (hb : b < 18446744073709551616) (hr : Rd w u ws) (hf : Fit ws) (hm : (m : Int) ≤ 9223372036854775807) (hs : (s.size : Int) ≤ 9223372036854775807) (hk : k = 1 ∨ k = 2) (hg : goodP k y n ws b s m = true) {B0 : Nat} {X0 : Int} (hx0 : X0 ≠ 0) (ho : OFH (zP k y n ws) B0 X0 w) :
   Calls Tryz.prog 12 #[.agg #[.int .i64 k, .bool y, .bool n, u, .int .u64 (b : Int), .string s, .slice ip m ic]] w (ValP 0 0 0 X0 w) := by
 obtain ⟨p, c, rfl, hc, hwm, hp⟩ := rd_form hr
 obtain ⟨W1, hW1, HB, HXA, HV, HLT⟩ := pre1 w (.int .i64 k) (.bool y) (.bool n) (.slice p ws.length c) (.int .u64 (b : Int)) (.string s) (.slice ip m ic)
 have HR := hid (hr.keep HB.out)
 have HF := hid (fun (W : World) (hx : Rd W (.slice p ws.length c) ws) (h : OFH (zP k y n ws) B0 X0 W) => tobits_w k y n _ ws b s ip m ic W hb hx hf hm hs hk hg h)
 have HO := hid (ho.keep HB.out)
 have q0 : (X0 != 0) = true := by simpa using hx0
 have HN := hid (fun (W : World) => number15_any k y n (.slice p ws.length c) b s (.slice ip m ic) W)
 rw [show numP k = true from (by rcases hk with rfl | rfl <;> rfl)] at HN
 clear hr hf hp hb hm hs hg hk ho hx0
 obtain ⟨a0, a1, a2, a3, a4, a5, a6⟩ := HXA.out
 go_enter Tryz.func12, Tryz.ntmps12
 go_wp2_with (first
   | (go_at_call 38; (try rw [hW1]); (with_reducible refine (HN.out _).mono ?_); rintro e vn ⟨rfl, hvv⟩; obtain ⟨HB, HXA, HV, HR, a0, a1, a2, a3, a4, a5, a6⟩ := keepAll hvv HB HXA HV HR; replace HO := hid (HO.out.keep hvv); clear hvv)
   | (go_at_call 44; (try rw [hW1]); (with_reducible refine (HF.out _ HR.out HO.out).mono ?_); rintro e vn ⟨rfl, hvv⟩; obtain ⟨HB, HXA, HV, HR, a0, a1, a2, a3, a4, a5, a6⟩ := keepAll hvv HB HXA HV HR; obtain ⟨⟨vc0, vc1, vc2, vc3, vc4, vc5, vc6⟩, vf0, vf1, vf2, vf3, vf4, vf5, vf6⟩ := HV.out; clear hvv)
   | fail)
 obtain ⟨z7, zb⟩ := fin7 HV HB (.int .i64 0) (.bool false) (.bool false) (.slice none 0 0) (.int .u64 0) (.string ⟨#[]⟩) (.slice none 0 0)
 unfold put7 at z7 zb
 exact bodyPost_ret (v := .tuple #[.agg #[.int .i64 0, .bool false, .bool false, .slice none 0 0, .int .u64 0, .string ⟨#[]⟩, .slice none 0 0], .int .i64 X0]) (by simp [results, Tryz.results12, go_sem, z7.c0, z7.c1, z7.c2, z7.c3, z7.c4, z7.c5, z7.c6]) rfl (ValP.none zb)
theorem df_s (y n : Bool) (u : Value) (ws : List Int) (b : Nat) (s : ByteArray) (ip : Option Addr) (m ic : Nat) (w : World) (hb : b < 18446744073709551616) (hr : Rd w u ws) (hf : Fit ws) (hm : (m : Int) ≤ 9223372036854775807) (hs : (s.size : Int) ≤ 9223372036854775807) (hg : goodP 4 y n ws b s m = true) (B0 : Nat) (X0 : Int) (hX : X0 = 0) (hBB : patB B0 = B0 ∧ B0 < 18446744073709551616) (hpa : ∀ W, Below w.heap.size w W → DPa s B0 X0 W) :
   Calls Tryz.prog 12 #[.agg #[.int .i64 4, .bool y, .bool n, u, .int .u64 (b : Int), .string s, .slice ip m ic]] w (ValP 3 0 B0 0 w) := by
 obtain ⟨p, c, rfl, hc, hwm, hp⟩ := rd_form hr
 obtain ⟨W1, hW1, HB, HXA, HV, HLT⟩ := pre1 w (.int .i64 4) (.bool y) (.bool n) (.slice p ws.length c) (.int .u64 (b : Int)) (.string s) (.slice ip m ic)
 have HR := hid (hr.keep HB.out)
 have HP := hid hpa
 subst hX
 have HFl := hid (fun (W : World) => rFloat_any B0 hBB.2 W)
 rw [hBB.1] at HFl
 have HN := hid (fun (W : World) => number15_any 4 y n (.slice p ws.length c) b s (.slice ip m ic) W)
 rw [show numP 4 = false from (by decide)] at HN
 clear hr hf hp hb hm hs hg hpa hBB
 obtain ⟨a0, a1, a2, a3, a4, a5, a6⟩ := HXA.out
 go_enter Tryz.func12, Tryz.ntmps12
 go_wp2_with (first
   | (go_at_call 38; (try rw [hW1]); (with_reducible refine (HN.out _).mono ?_); rintro e vn ⟨rfl, hvv⟩; obtain ⟨HB, HXA, HV, HR, a0, a1, a2, a3, a4, a5, a6⟩ := keepAll hvv HB HXA HV HR; clear hvv)
   | (go_at_call 45; (try rw [hW1]); have hpa := HP.out _ HB.out; unfold DPa at hpa; (with_reducible refine hpa.mono ?_); rintro e vn ⟨rfl, hvv⟩; obtain ⟨HB, HXA, HV, HR, a0, a1, a2, a3, a4, a5, a6⟩ := keepAll hvv HB HXA HV HR; clear hvv hpa)
   | (go_at_call 22; (try rw [hW1]); (with_reducible refine (HFl.out _).mono ?_); rintro e vn ⟨rfl, hvv⟩; obtain ⟨HB, HXA, HV, HR, a0, a1, a2, a3, a4, a5, a6⟩ := keepAll hvv HB HXA HV HR; obtain ⟨⟨vc0, vc1, vc2, vc3, vc4, vc5, vc6⟩, vf0, vf1, vf2, vf3, vf4, vf5, vf6⟩ := HV.out; clear hvv)
   | fail)
 obtain ⟨z7, zb⟩ := fin7 HV HB (.int .i64 3) (.bool false) (.bool false) (.slice none 0 0) (.int .u64 (B0 : Int)) (.string ⟨#[]⟩) (.slice none 0 0)
 unfold put7 at z7 zb
 exact bodyPost_ret (v := .tuple #[.agg #[.int .i64 3, .bool false, .bool false, .slice none 0 0, .int .u64 (B0 : Int), .string ⟨#[]⟩, .slice none 0 0], .int .i64 0]) (by simp [results, Tryz.results12, go_sem, z7.c0, z7.c1, z7.c2, z7.c3, z7.c4, z7.c5, z7.c6]) rfl (ValP.none zb)
theorem df_sbad (y n : Bool) (u : Value) (ws : List Int) (b : Nat) (s : ByteArray) (ip : Option Addr) (m ic : Nat) (w : World) (hb : b < 18446744073709551616) (hr : Rd w u ws) (hf : Fit ws) (hm : (m : Int) ≤ 9223372036854775807) (hs : (s.size : Int) ≤ 9223372036854775807) (hg : goodP 4 y n ws b s m = true) (B0 : Nat) (X0 : Int) (hX : X0 ≠ 0) (hpa : ∀ W, Below w.heap.size w W → DPa s B0 X0 W) :
   Calls Tryz.prog 12 #[.agg #[.int .i64 4, .bool y, .bool n, u, .int .u64 (b : Int), .string s, .slice ip m ic]] w (ValP 0 0 0 4 w) := by
 obtain ⟨p, c, rfl, hc, hwm, hp⟩ := rd_form hr
 obtain ⟨W1, hW1, HB, HXA, HV, HLT⟩ := pre1 w (.int .i64 4) (.bool y) (.bool n) (.slice p ws.length c) (.int .u64 (b : Int)) (.string s) (.slice ip m ic)
 have HR := hid (hr.keep HB.out)
 have HP := hid hpa
 have q0 : (X0 != 0) = true := by simpa using hX
 have HN := hid (fun (W : World) => number15_any 4 y n (.slice p ws.length c) b s (.slice ip m ic) W)
 rw [show numP 4 = false from (by decide)] at HN
 clear hr hf hp hb hm hs hg hpa hX
 obtain ⟨a0, a1, a2, a3, a4, a5, a6⟩ := HXA.out
 go_enter Tryz.func12, Tryz.ntmps12
 go_wp2_with (first
   | (go_at_call 38; (try rw [hW1]); (with_reducible refine (HN.out _).mono ?_); rintro e vn ⟨rfl, hvv⟩; obtain ⟨HB, HXA, HV, HR, a0, a1, a2, a3, a4, a5, a6⟩ := keepAll hvv HB HXA HV HR; clear hvv)
   | (go_at_call 45; (try rw [hW1]); have hpa := HP.out _ HB.out; unfold DPa at hpa; (with_reducible refine hpa.mono ?_); rintro e vn ⟨rfl, hvv⟩; obtain ⟨HB, HXA, HV, HR, a0, a1, a2, a3, a4, a5, a6⟩ := keepAll hvv HB HXA HV HR; obtain ⟨⟨vc0, vc1, vc2, vc3, vc4, vc5, vc6⟩, vf0, vf1, vf2, vf3, vf4, vf5, vf6⟩ := HV.out; clear hvv hpa)
   | fail)
 obtain ⟨z7, zb⟩ := fin7 HV HB (.int .i64 0) (.bool false) (.bool false) (.slice none 0 0) (.int .u64 0) (.string ⟨#[]⟩) (.slice none 0 0)
 unfold put7 at z7 zb
 exact bodyPost_ret (v := .tuple #[.agg #[.int .i64 0, .bool false, .bool false, .slice none 0 0, .int .u64 0, .string ⟨#[]⟩, .slice none 0 0], .int .i64 4]) (by simp [results, Tryz.results12, go_sem, z7.c0, z7.c1, z7.c2, z7.c3, z7.c4, z7.c5, z7.c6]) rfl (ValP.none zb)
end Go.Proofs.YtlhfemgimieooaaGreatDoor
