/- real.Whole: a float cut to a whole number, at any float. -/
import Derived.Test.YtlhfemgimieooaaGreatDoorPGRlT
import Derived.Test.YtlhfemgimieooaaGreatDoorPGRlG
import Derived.Test.YtlhfemgimieooaaGreatDoorPGWg
import Derived.Test.YtlhfemgimieooaaGreatDoorPGWk
import Derived.Test.YtlhfemgimieooaaGreatDoorPGWa
import Derived.Test.YtlhfemgimieooaaGreatDoorPGWf
import Derived.LoopTactic
import Derived.Test.YtlhfemgimieooaaGreatDoorPGWh
set_option linter.unusedVariables false
set_option linter.unusedSimpArgs false
set_option maxRecDepth 100000
set_option maxHeartbeats 4000000
namespace Go.Proofs.YtlhfemgimieooaaGreatDoor
open Go.Lib (hid)
open Go Go.ChangeShapes Go.WideShapes Go.ChangeAt Go.RowKit
section
def WholePost (W : World) (z : Int) (e : Ending) (w' : World) : Prop :=
 ∃ n p c ws, e = .returned (.tuple #[.agg #[.bool n, .slice p (List.length ws) c], .int .i64 0]) ∧ Rd w' (.slice p ws.length c) ws ∧ Sgn B18 n ws z ∧ Below W.heap.size W w'
theorem toint_z (b : Nat) (hx : nanB b = false) (hi : b % fSG ≠ fIN) (hl : trV b < 9007199254740992) (w : World) : (convert 95 3 (.float .f64 (tcB b))).run Tryz.prog w = .ok (.int .i64 (trZ b)) w := by
 obtain ⟨t1, t2, t3, t4, t5⟩ := tc_all b hx hi
 have e1 : trV (tcB b) = trV b := by
   unfold trV at t5 ⊢
   rw [t5, mdp]
 have h := run_toint (tcB b) t1 (Nat.ne_of_lt t4) (by rw [e1]; exact hl) w
 rw [e1, t2] at h
 exact h
theorem whole_small (b : Nat) (hb : b < 18446744073709551616) (hn : nanB b = false) (hi : infB b = false) (hl : trV b < 9007199254740992) (w : World) :
   Calls Tryz.prog 33 #[.int .u64 (b : Int)] w (WholePost w (trZ b)) := by
 have hif : b % fSG ≠ fIN := by unfold infB at hi; simpa using hi
 have HNn := hid (fun W => isNaN_any b W)
 have HIn := hid (fun W => isInf0 b hb hn W)
 have HTr := hid (fun W => trunc_any b hn hif W)
 have HNu := hid (fun W => number_any b W)
 obtain ⟨t1, t2, t3, t4, t5⟩ := tc_all b hn hif
 have HAb := hid (fun W => abs_one (tcB b) (tcB b % fSG) (andNot_u (tcB b) t3) W)
 have h1 := small_d b hn hif
 rw [decide_eq_true hl] at h1
 have hC := fun W => toint_z b hn hif hl W
 obtain ⟨zl, zh⟩ := trZ_i64 hl
 rw [hn] at HNn
 rw [hi] at HIn
 obtain ⟨z, hz⟩ : ∃ z, trZ b = z := ⟨_, rfl⟩
 obtain ⟨t, ht⟩ : ∃ t, tcB b = t := ⟨_, rfl⟩
 rw [hz] at hC zl zh ⊢
 rw [ht] at hC HAb HTr h1
 have HI : I64 z := ⟨zl, zh⟩
 have HI' := hid HI
 clear hz t1 t2 t3 t4 t5 ht hn hi hif hl HI
 go_enter Tryz.func33, Tryz.ntmps33
 go_wp2_with (first
   | (go_at_call 62; (with_reducible refine (HNu.out _).mono ?_); rintro e w9 ⟨rfl, rfl⟩)
   | (go_at_call 66; (with_reducible refine (HNn.out _).mono ?_); rintro e w9 ⟨rfl, rfl⟩)
   | (go_at_call 67; (with_reducible refine (HIn.out _).mono ?_); rintro e w9 ⟨rfl, rfl⟩)
   | (go_at_call 68; (with_reducible refine (HTr.out _).mono ?_); rintro e w9 ⟨rfl, rfl⟩)
   | (go_at_call 69; (with_reducible refine (HAb.out _).mono ?_); rintro e w9 ⟨rfl, rfl⟩)
   | fail)
 obtain ⟨W1, hW1⟩ : ∃ x, w.alloc (.cells #[.bool false, .slice none 0 0] 24) = x := ⟨_, rfl⟩
 have hB1 : Below w.heap.size w W1 := by rw [← hW1]; exact (Below.refl _ _).alloc (Nat.le_refl _) _
 have hbx : Box2 W1 w.heap.size (.bool false) (.slice none 0 0) := by rw [← hW1]; exact Box2.new _ _ _ _ rfl
 rw [hW1]
 clear hW1
 refine (wof_at HI'.out (Below.refl W1.heap.size W1)).mono ?_
 rintro e w2 ⟨n, p, c, ws, rfl, hR, hS, hB, _⟩
 have HR := hid hR
 have HS := hid hS
 have HB := hid (hB1.trans (hB.mono hB1.size))
 have hb2 := hbx.keep hB
 have c0 := hb2.c0
 have c1 := hb2.c1
 have f0 := hb2.f0
 have f1 := hb2.f1
 have HX := hid hb2
 clear hR hS hB hB1 hbx hb2
 go_wp2_with fail
 have z2 := two_setW (x0 := .bool n) (x1 := .slice p ws.length c) HX.out.c0 HX.out.c1
 refine bodyPost_ret (v := .tuple #[.agg #[.bool n, .slice p ws.length c], .int .i64 0]) (by simp [results, Tryz.results33, go_sem, z2.1, z2.2]) rfl ⟨n, p, c, ws, rfl, HR.out.putN HX.out _ _, HS.out, ?_⟩
 exact (HB.out.setCell (Nat.le_refl _) _).setCell (Nat.le_refl _) _
theorem i64_nat {n : Nat} (h : n < 9223372036854775808) : I64 ((n : Nat) : Int) := ⟨by omega, by omega⟩
theorem mul_at {W wx : World} {n1 : Bool} {u1 : Value} {xs : List Int} {z1 : Int} {n2 : Bool} {u2 : Value} {ys : List Int} {z2 : Int} (hr1 : Rd wx u1 xs) (hr2 : Rd wx u2 ys) (hs1 : Sgn B18 n1 xs z1) (hs2 : Sgn B18 n2 ys z2) (hl1 : xs.length ≤ 30) (hl2 : ys.length ≤ 30) (hx : Below W.heap.size W wx) :
   Calls Tryz.prog 72 #[.agg #[.bool n1, u1], .agg #[.bool n2, u2]] wx (PAt W wx (ResCase (z1 * z2))) := by
 refine (mul_good n1 u1 xs z1 n2 u2 ys z2 wx hr1 hr2 hs1 hs2 hl1 hl2).mono ?_
 rintro e w' ⟨n, u, ws, er, rfl, hM, hB, hc⟩
 obtain ⟨p, c, rfl⟩ := MU.form hM
 exact ⟨n, p, c, ws, er, rfl, hM.rd (ResCase.len17 hc), hc, hx.trans (hB.mono hx.size), hB⟩
theorem whole_great (b : Nat) (hb : b < 18446744073709551616) (hn : nanB b = false) (hi : infB b = false) (hl : ¬ trV b < 9007199254740992) (w : World) :
   Calls Tryz.prog 33 #[.int .u64 (b : Int)] w (WholePost w (trZ b)) := by
 have hif : b % fSG ≠ fIN := by unfold infB at hi; simpa using hi
 have HNn := hid (fun W => isNaN_any b W)
 have HIn := hid (fun W => isInf0 b hb hn W)
 have HTr := hid (fun W => trunc_any b hn hif W)
 have HNu := hid (fun W => number_any b W)
 have HPa := hid (fun W => parts_any b hb W)
 obtain ⟨t1, t2, t3, t4, t5⟩ := tc_all b hn hif
 have HAb := hid (fun W => abs_one (tcB b) (tcB b % fSG) (andNot_u (tcB b) t3) W)
 have HSg := hid (fun W => signed_any (tcB b) t3 W)
 rw [t2] at HSg
 have h1 := small_d b hn hif
 rw [decide_eq_false hl] at h1
 have he := exq_pos hl
 have HM := hid (tr_mul he)
 have hml := man_lt b
 have hel := (exq_lo b).2
 have HSM := hid (tr_small b)
 have HSP := hid (exq_small (b := b))
 have HZ := hid (show trZ b = if negB b = true then -((trV b : Nat) : Int) else ((trV b : Nat) : Int) from rfl)
 rw [hn] at HNn
 rw [hi] at HIn
 obtain ⟨z, hz⟩ : ∃ z, trZ b = z := ⟨_, rfl⟩
 obtain ⟨t, ht⟩ : ∃ t, tcB b = t := ⟨_, rfl⟩
 obtain ⟨M, hM⟩ : ∃ M, manB b = M := ⟨_, rfl⟩
 obtain ⟨X, hX⟩ : ∃ X, (exqB b).toNat = X := ⟨_, rfl⟩
 obtain ⟨V, hV⟩ : ∃ V : Int, ((trV b : Nat) : Int) = V := ⟨_, rfl⟩
 have hXi : exqB b = (X : Int) := by omega
 rw [hXi] at HPa hel
 rw [hz] at HZ ⊢
 rw [hM] at HPa HM hml
 rw [hX] at HM HSP
 rw [hV] at HM HSM HZ
 rw [ht] at HAb HTr HSg h1
 clear hz t1 t2 t3 t4 t5 ht hn hi hif hl hM hX hV hXi he
 go_enter Tryz.func33, Tryz.ntmps33
 go_wp2_with (first
   | (go_at_call 62; (with_reducible refine (HNu.out _).mono ?_); rintro e w9 ⟨rfl, rfl⟩)
   | (go_at_call 66; (with_reducible refine (HNn.out _).mono ?_); rintro e w9 ⟨rfl, rfl⟩)
   | (go_at_call 67; (with_reducible refine (HIn.out _).mono ?_); rintro e w9 ⟨rfl, rfl⟩)
   | (go_at_call 68; (with_reducible refine (HTr.out _).mono ?_); rintro e w9 ⟨rfl, rfl⟩)
   | (go_at_call 69; (with_reducible refine (HAb.out _).mono ?_); rintro e w9 ⟨rfl, rfl⟩)
   | (go_at_call 70; (with_reducible refine (HPa.out _).mono ?_); rintro e w9 ⟨rfl, rfl⟩)
   | fail)
 obtain ⟨W1, hW1⟩ : ∃ x, w.alloc (.cells #[.bool false, .slice none 0 0] 24) = x := ⟨_, rfl⟩
 have hB1 : Below w.heap.size w W1 := by rw [← hW1]; exact (Below.refl _ _).alloc (Nat.le_refl _) _
 have hbx : Box2 W1 w.heap.size (.bool false) (.slice none 0 0) := by rw [← hW1]; exact Box2.new _ _ _ _ rfl
 rw [hW1]
 clear hW1
 refine (wofn_at (n := 2) ⟨by decide, by decide⟩ (Below.refl W1.heap.size W1)).mono ?_
 rintro e w2 ⟨n2, p2, c2, ws2, rfl, hR2, hS2, hB2, _⟩
 have hbx2 := hbx.keep hB2
 have hB2' := hB1.trans (hB2.mono hB1.size)
 go_wp2_with fail
 refine (wofn_at (n := (X : Int)) ⟨by omega, by omega⟩ (Below.refl w2.heap.size w2)).mono ?_
 rintro e w3 ⟨n3, p3, c3, ws3, rfl, hR3, hS3, hB3, _⟩
 have hbx3 := hbx2.keep hB3
 have hB3' := hB2'.trans (hB3.mono hB2'.size)
 have hR2' := hR2.keep hB3
 have hl2 : ws2.length ≤ 30 := hS2.small.2 (I64.small ⟨by decide, by decide⟩)
 have hl3 : ws3.length ≤ 30 := hS3.small.2 (I64.small ⟨by omega, by omega⟩)
 clear hbx hbx2 hB1 hB2 hB2' hB3
 go_wp2_with fail
 refine (pow_at hR2' hR3 hS2 hS3 hl2 hl3 (by omega) (Below.refl w3.heap.size w3)).mono ?_
 rintro e w4 ⟨n4, p4, c4, ws4, er, rfl, hR4, hC4, hB4, _⟩
 rw [show ((X : Int)).toNat = X from Int.toNat_natCast X] at hC4
 obtain rfl := hC4.er0 HSP.out
 have HS4 := hid hC4.ok
 have HB4 := hid (hB3'.trans (hB4.mono hB3'.size))
 have HX4 := hid (hbx3.keep hB4)
 have HR4 := hid hR4
 have HL4 := hid (HS4.out.small.2 HSP.out)
 clear hR2 hR3 hS2 hS3 hl2 hl3 hR2' hB4 hB3' hbx3 hR4 hC4
 go_wp2_with fail
 obtain ⟨W5, hW5⟩ : ∃ x, w4.alloc (.cells #[.bool n4, .slice p4 ws4.length c4] 24) = x := ⟨_, rfl⟩
 have hb5 : Below w4.heap.size w4 W5 := by rw [← hW5]; exact (Below.refl _ _).alloc (Nat.le_refl _) _
 have HB5 := hid (HB4.out.trans (hb5.mono HB4.out.size))
 have HX5 := hid (HX4.out.keep hb5)
 have RX := hid (HR4.out.keep hb5)
 have HD5 := hid (show Box2 W5 w4.heap.size (.bool n4) (.slice p4 ws4.length c4) by rw [← hW5]; exact Box2.new _ _ _ _ rfl)
 rw [hW5]
 have cDa := HD5.out.c0
 have cDb := HD5.out.c1
 have cDl := HD5.out.lt
 have HMI := hid (i64_nat (n := M) (by omega))
 clear hW5 hb5 HR4 HX4 HB4
 have CO := hid (fun (wx : World) (hx : Below W5.heap.size W5 wx) => wofn_at (n := (M : Int)) HMI.out hx)
 have HML := hid (fun (n : Bool) (ws : List Int) (h : Sgn B18 n ws (M : Int)) => h.small.2 (I64.small HMI.out))
 go_cut [9, 10] (fun p q wx => ∃ bA nA pA cA lA eA, p = .pointer (some ⟨bA, 0, none⟩) ∧ q = .int .i64 eA ∧ W5.heap.size ≤ bA ∧ PR W5 wx bA nA pA cA lA eA (ResCase ((M : Int) * 2 ^ X)))
 case first =>
   go_region_held3 (fun w' => w'.cell? ⟨w4.heap.size, 0, none⟩ = some (.bool n4) ∧ w'.cell? ⟨w4.heap.size, 1, none⟩ = some (.slice p4 ws4.length c4))
     ((repeat' apply And.intro) <;> (repeat' (first | with_reducible assumption | with_reducible refine acl ?_ _ | (with_reducible refine cell_set2 ?_ ?_ _ _; · omega) | with_reducible refine drew_cell ?_)))
     (first
      | (go_at_call 65; (with_reducible refine (CO.out _ (by ((repeat' (first | with_reducible assumption | with_reducible exact Below.refl _ _ | with_reducible refine Below.drew ?_ | with_reducible refine Below.alloc ?_ (by first | omega | (simp; omega) | (simp; done) | fail) _ | with_reducible refine Below.setCell ?_ (by first | omega | (simp; omega) | (simp; done) | fail) _ | fail)); (first | done | fail)))).mono ?_); rintro e v1 ⟨nn, pn, cn, wn, rfl, hRn, hSn, hv1, hx1⟩; have kX0_1 := bcl hv1 cDa; have kX1_1 := bcl hv1 cDb; have zv1 := hv1.size; (try (have hBox := Box2.keep (B := W5.heap.size) (a := (.bool false)) (b := (.slice none 0 0)) (by ((repeat' (first | with_reducible assumption | (with_reducible exact Hid.out ‹_›) | (with_reducible refine Box2.put0 _ _ ?_) | (with_reducible refine Box2.new _ _ _ _ ?_; (first | with_reducible rfl | (simp; done) | rfl)) | (with_reducible refine Box2.alloc ?_ _) | (with_reducible refine Box2.drew ?_) | (with_reducible refine Box2.set2 ?hn _ _ ?_; case hn => omega) | fail)); (first | done | fail))) hx1; obtain ⟨_, _, _, _, _, _, _, _⟩ := hBox.all)); have RN := hid hRn; have SN := hid hSn; clear hRn hSn hx1)
      | (go_at_call 72; (with_reducible refine (mul_at (W := W5) (show Rd _ (.slice pn wn.length cn) wn by ((repeat' (first | with_reducible exact RN.out | with_reducible refine Rd.alloc ?_ _ | with_reducible refine Rd.drew ?_ | fail)); (first | done | fail))) (RX.out.keep (by ((repeat' (first | with_reducible assumption | with_reducible exact Below.refl _ _ | with_reducible refine Below.drew ?_ | with_reducible refine Below.alloc ?_ (by first | omega | (simp; omega) | (simp; done) | fail) _ | with_reducible refine Below.setCell ?_ (by first | omega | (simp; omega) | (simp; done) | fail) _ | fail)); (first | done | fail)))) SN.out HS4.out (HML.out _ _ SN.out) HL4.out (by ((repeat' (first | with_reducible assumption | with_reducible exact Below.refl _ _ | with_reducible refine Below.drew ?_ | with_reducible refine Below.alloc ?_ (by first | omega | (simp; omega) | (simp; done) | fail) _ | with_reducible refine Below.setCell ?_ (by first | omega | (simp; omega) | (simp; done) | fail) _ | fail)); (first | done | fail)))).mono ?_); rintro e v2 ⟨nA, pA, cA, lA, eA, rfl, hRA, hCA, hv2, hx2⟩; have kX0_2 := bcl hv2 cDa; have kX1_2 := bcl hv2 cDb; have zv2 := hv2.size; (try (have hBox := Box2.keep (B := W5.heap.size) (a := (.bool false)) (b := (.slice none 0 0)) (by ((repeat' (first | with_reducible assumption | (with_reducible exact Hid.out ‹_›) | (with_reducible refine Box2.put0 _ _ ?_) | (with_reducible refine Box2.new _ _ _ _ ?_; (first | with_reducible rfl | (simp; done) | rfl)) | (with_reducible refine Box2.alloc ?_ _) | (with_reducible refine Box2.drew ?_) | (with_reducible refine Box2.set2 ?hn _ _ ?_; case hn => omega) | fail)); (first | done | fail))) hx2; obtain ⟨_, _, _, _, _, _, _, _⟩ := hBox.all)); (try (have hBox := Box2.keep (B := v1.heap.size) (a := (.bool false)) (b := (.slice none 0 0)) (by ((repeat' (first | with_reducible assumption | (with_reducible exact Hid.out ‹_›) | (with_reducible refine Box2.put0 _ _ ?_) | (with_reducible refine Box2.new _ _ _ _ ?_; (first | with_reducible rfl | (simp; done) | rfl)) | (with_reducible refine Box2.alloc ?_ _) | (with_reducible refine Box2.drew ?_) | (with_reducible refine Box2.set2 ?hn _ _ ?_; case hn => omega) | fail)); (first | done | fail))) hx2; obtain ⟨_, _, _, _, _, _, _, _⟩ := hBox.all)); have RA := hid hRA; have CA := hid hCA; clear hRA hCA hx2))
   all_goals (go_wp2_with fail)
   all_goals go_meet
   all_goals exact ⟨_, nA, pA, cA, lA, eA, rfl, rfl, (by first | exact Nat.le_refl _ | omega | (simp; done) | (simp; omega)), ⟨by ((repeat' (first | with_reducible assumption | with_reducible exact Below.refl _ _ | with_reducible refine Below.drew ?_ | with_reducible refine Below.alloc ?_ (by first | omega | (simp; omega) | (simp; done) | fail) _ | with_reducible refine Below.setCell ?_ (by first | omega | (simp; omega) | (simp; done) | fail) _ | fail)); (first | done | fail)), by ((repeat' (first | with_reducible assumption | (with_reducible exact Hid.out ‹_›) | (with_reducible refine Box2.put0 _ _ ?_) | (with_reducible refine Box2.new _ _ _ _ ?_; (first | with_reducible rfl | (simp; done) | rfl)) | (with_reducible refine Box2.alloc ?_ _) | (with_reducible refine Box2.drew ?_) | (with_reducible refine Box2.set2 ?hn _ _ ?_; case hn => omega) | fail)); (first | done | fail)), by ((repeat' (first | with_reducible exact RA.out | (with_reducible refine Rd.putN ?hb _ _ ?_; case hb => ((repeat' (first | with_reducible assumption | (with_reducible exact Hid.out ‹_›) | (with_reducible refine Box2.put0 _ _ ?_) | (with_reducible refine Box2.new _ _ _ _ ?_; (first | with_reducible rfl | (simp; done) | rfl)) | (with_reducible refine Box2.alloc ?_ _) | (with_reducible refine Box2.drew ?_) | (with_reducible refine Box2.set2 ?hn _ _ ?_; case hn => omega) | fail)); (first | done | fail))) | with_reducible refine Rd.alloc ?_ _ | with_reducible refine Rd.drew ?_ | fail)); (first | done | fail)), CA.out⟩⟩
 case rest =>
   obtain ⟨be, ne, pe, ce, le, ee, rfl, rfl, hbe, hPR⟩ := hcut
   have hlt : w.heap.size < be := Nat.lt_of_lt_of_le HX5.out.lt hbe
   have HLE := hid (Nat.le_of_lt hlt)
   have hne : be ≠ w.heap.size := Nat.ne_of_gt hlt
   clear hlt
   have hb6 := hPR.below
   obtain ⟨w6, rfl⟩ : ∃ w6 : World, w6 = wc := ⟨_, rfl⟩
   have hC6 := hPR.case
   rw [← HM.out] at hC6
   obtain rfl := hC6.er0 HSM.out
   have HS6 := hid hC6.ok
   have HB6 := hid (HB5.out.trans (hb6.mono HB5.out.size))
   have HX6 := hid (HX5.out.keep hb6)
   have HE6 := hid hPR.x1
   have HR6 := hid hPR.r1
   have cE0 := HE6.out.c0
   have cE1 := HE6.out.c1
   have cEl := HE6.out.lt
   have cF0 := HE6.out.f0
   have cF1 := HE6.out.f1
   clear hPR CO RX hb6 cDa cDb cDl HX5 HB5 HD5 hC6
   cases hg : negB b
   · rw [hg] at HSg HZ
     clear hg
     simp only [Bool.false_eq_true, if_false] at HZ
     have d0 := HX6.out.c0
     have d1 := HX6.out.c1
     have g0 := HX6.out.f0
     have g1 := HX6.out.f1
     go_wp2_with (first | (go_at_call 73; (with_reducible refine (HSg.out _).mono ?_); rintro e w9 ⟨rfl, rfl⟩) | fail)
     have z2 := two_setW (x0 := .bool ne) (x1 := .slice pe le.length ce) HX6.out.c0 HX6.out.c1
     refine bodyPost_ret (v := .tuple #[.agg #[.bool ne, .slice pe le.length ce], .int .i64 0]) (by simp [results, Tryz.results33, go_sem, z2.1, z2.2]) rfl ⟨ne, pe, ce, le, rfl, HR6.out.putN HX6.out _ _, by rw [HZ.out]; exact HS6.out, ?_⟩
     exact (HB6.out.setCell (Nat.le_refl _) _).setCell (Nat.le_refl _) _
   · rw [hg] at HSg HZ
     clear hg
     simp only [if_true] at HZ
     have HL6 := hid (HS6.out.small.2 HSM.out)
     go_wp2_with (first | (go_at_call 73; (with_reducible refine (HSg.out _).mono ?_); rintro e w9 ⟨rfl, rfl⟩) | fail)
     refine (neg_at HR6.out HS6.out HL6.out (Below.refl w6.heap.size w6)).mono ?_
     rintro e w7 ⟨n7, p7, c7, ws7, rfl, hR7, hS7, hB7, _⟩
     have HB7 := hid (HB6.out.trans (hB7.mono HB6.out.size))
     have HX7 := hid (HX6.out.keep hB7)
     have HE7 := hid (HE6.out.keep hB7)
     have HR7 := hid hR7
     have HS7 := hid hS7
     have e0 := HE7.out.c0
     have e1 := HE7.out.c1
     have k0 := HE7.out.f0
     have k1 := HE7.out.f1
     clear hR7 hS7 hB7 cE0 cE1 cEl cF0 cF1
     go_upto_region 14 with fail
     obtain ⟨W8, hW8⟩ : ∃ x, (w7.setCell ⟨be, 0, none⟩ (.bool n7)).setCell ⟨be, 1, none⟩ (.slice p7 ws7.length c7) = x := ⟨_, rfl⟩
     have HB8 := hid (show Below w.heap.size w W8 by rw [← hW8]; exact (HB7.out.setCell HLE.out _).setCell HLE.out _)
     have HX8 := hid (show Box2 W8 w.heap.size (.bool false) (.slice none 0 0) by rw [← hW8]; exact HX7.out.set2 (fun h => hne h.symm) _ _)
     have HE8 := hid (show Box2 W8 be (.bool n7) (.slice p7 ws7.length c7) by rw [← hW8]; exact HE7.out.put _ _)
     have HR8 := hid (show Rd W8 (.slice p7 ws7.length c7) ws7 by rw [← hW8]; exact HR7.out.put2 HE7.out _ _)
     rw [hW8]
     clear e0 e1 k0 k1 hW8
     have d0 := HX8.out.c0
     have d1 := HX8.out.c1
     have g0 := HX8.out.f0
     have g1 := HX8.out.f1
     have e0 := HE8.out.c0
     have e1 := HE8.out.c1
     go_wp2_with fail
     have z2 := two_setW (x0 := .bool n7) (x1 := .slice p7 ws7.length c7) HX8.out.c0 HX8.out.c1
     refine bodyPost_ret (v := .tuple #[.agg #[.bool n7, .slice p7 ws7.length c7], .int .i64 0]) (by simp [results, Tryz.results33, go_sem, z2.1, z2.2]) rfl ⟨n7, p7, c7, ws7, rfl, HR8.out.putN HX8.out _ _, by rw [HZ.out]; exact HS7.out, ?_⟩
     exact (HB8.out.setCell (Nat.le_refl _) _).setCell (Nat.le_refl _) _
theorem whole_any (b : Nat) (hb : b < 18446744073709551616) (hn : nanB b = false) (hi : infB b = false) (w : World) :
   Calls Tryz.prog 33 #[.int .u64 (b : Int)] w (WholePost w (trZ b)) := by
 by_cases hl : trV b < 9007199254740992
 · exact whole_small b hb hn hi hl w
 · exact whole_great b hb hn hi hl w
end
section
end
section
end
section
def CtPost (W : World) (b : Nat) (e : Ending) (w' : World) : Prop :=
 ∃ n p c ds, e = .returned (.tuple #[.agg #[.bool n, .slice p (List.length ds) c], .bool (lostB b)]) ∧ Rb w' (.slice p ds.length c) ds ∧ Sgn 10 n ds (trZ b) ∧ Below W.heap.size W w'
structure CtE (b m : Nat) (e : Int) : Prop where
 eq : trV b = m * 2 ^ e.toNat
 lt : m < 9007199254740992
 hi : e ≤ 972
 lo : -1074 ≤ e
structure CtG (b j m : Nat) (e : Int) (l : Bool) : Prop where
 gm : m = manB b / 2 ^ j
 ge : e = exqB b + (j : Int)
 gl : l = decide (manB b % 2 ^ j ≠ 0)
 gj : 0 < j → e ≤ 0
theorem CtG.start (b : Nat) : CtG b 0 (manB b) (exqB b) false := ⟨by simp, by simp, by simp [Nat.mod_one], by omega⟩
theorem CtG.lt {b j m : Nat} {e : Int} {l : Bool} (h : CtG b j m e l) : m < 9007199254740992 := by
 have h1 := h.gm; have h2 := man_lt b; have h3 := Nat.div_le_self (manB b) (2 ^ j); omega
theorem CtG.hi {b j m : Nat} {e : Int} {l : Bool} (h : CtG b j m e l) : e ≤ 972 ∧ -1074 ≤ e := by
 have h1 := h.ge; have h2 := exq_lo b; have h3 := h.gj; omega
theorem CtG.step {b j m : Nat} {e : Int} {l : Bool} (h : CtG b j m e l) (he : e < 0) : CtG b (j + 1) (m / 2) (e + 1) (l || decide (m % 2 = 1)) := by
 obtain ⟨h1, h2⟩ := half_step (manB b) j
 exact ⟨by rw [h1, ← h.gm], by have := h.ge; omega, by rw [h2, ← h.gm, ← h.gl], fun _ => by omega⟩
theorem CtG.stop {b j m : Nat} {e : Int} {l : Bool} (h : CtG b j m e l) (he : ¬ (e < 0 ∧ 0 < m)) : CtE b m e ∧ l = lostB b := by
 obtain ⟨hi, lo⟩ := h.hi
 have hm := h.gm
 have hE := h.ge
 have hL := h.gl
 have hj := h.gj
 by_cases hx : 0 ≤ exqB b
 · have j0 : j = 0 := by omega
   subst j0
   have m0 : m = manB b := by simpa using hm
   refine ⟨⟨?_, h.lt, hi, lo⟩, by rw [hL, lost_up b hx]; simp [Nat.mod_one]⟩
   rw [tr_up b hx, m0, show e = exqB b by omega]
 · have hx' : exqB b < 0 := by omega
   have hjk : j ≤ (-exqB b).toNat := by omega
   by_cases he0 : e < 0
   · have m0 : m = 0 := by omega
     obtain ⟨a1, a2⟩ := half_end (manB b) j (-exqB b).toNat hjk (by rw [← hm]; exact m0)
     refine ⟨⟨?_, h.lt, hi, lo⟩, by rw [hL, lost_down b hx', a2]⟩
     rw [tr_down b hx', a1, m0, Nat.zero_mul]
   · have hk : (-exqB b).toNat = j := by omega
     refine ⟨⟨?_, h.lt, hi, lo⟩, by rw [hL, lost_down b hx', hk]⟩
     rw [tr_down b hx', hk, ← hm, show e.toNat = 0 by omega, Nat.pow_zero, Nat.mul_one]
theorem CtE.small {b m : Nat} {e : Int} (h : CtE b m e) {i : Nat} (hi : i ≤ e.toNat) : Small ((m * 2 ^ i : Nat) : Int) := by
 have h1 := tr_small b
 have h2 : m * 2 ^ i ≤ trV b := by rw [h.eq]; exact Nat.mul_le_mul_left _ (Nat.pow_le_pow_right (by decide) hi)
 have h3 := h1.lt
 refine ⟨?_⟩
 rw [Int.natAbs_natCast] at h3 ⊢
 exact Int.lt_of_le_of_lt (Int.ofNat_le.2 h2) h3
theorem dbl (m i : Nat) : ((m * 2 ^ i : Nat) : Int) + ((m * 2 ^ i : Nat) : Int) = ((m * 2 ^ (i + 1) : Nat) : Int) := by
 rw [Nat.pow_succ, ← Nat.mul_assoc]; omega
structure CtS (w wr : World) (B : Nat) (n : Bool) (p : Option Addr) (c : Nat) (ds : List Int) (z : Int) : Prop where
 below : Below w.heap.size w wr
 res : Box2 wr w.heap.size (.bool false) (.slice none 0 0)
 bx : Box2 wr B (.bool n) (.slice p ds.length c)
 rb : Rb wr (.slice p ds.length c) ds
 sg : Sgn 10 n ds z
 hB : w.heap.size < B
theorem CtS.keep {w wr w' : World} {B : Nat} {n : Bool} {p : Option Addr} {c : Nat} {ds : List Int} {z : Int} (h : CtS w wr B n p c ds z) (hb : Below wr.heap.size wr w') : CtS w w' B n p c ds z :=
 ⟨h.below.trans (hb.mono h.below.size), h.res.keep hb, h.bx.keep hb, h.rb.keep hb, h.sg, h.hB⟩
theorem CtS.put {w wr : World} {B : Nat} {n : Bool} {p : Option Addr} {c : Nat} {ds : List Int} {z : Int} (h : CtS w wr B n p c ds z) {m : Bool} {q : Option Addr} {k : Nat} {es : List Int} {y : Int} (hr : Rb wr (.slice q es.length k) es) (hs : Sgn 10 m es y) :
   CtS w ((wr.setCell ⟨B, 0, none⟩ (.bool m)).setCell ⟨B, 1, none⟩ (.slice q es.length k)) B m q k es y :=
 ⟨(h.below.setCell (Nat.le_of_lt h.hB) _).setCell (Nat.le_of_lt h.hB) _, h.res.set2 (Nat.ne_of_lt h.hB) _ _, h.bx.put _ _, hr.set2 h.bx _ _, hs, h.hB⟩
theorem Rb.set1 {w : World} {B : Nat} {a : Bool} {v : Value} {ws : List Int} (h : Rb w v ws) (h0 : w.cell? ⟨B, 0, none⟩ = some (.bool a)) (x : Value) : Rb (w.setCell ⟨B, 0, none⟩ x) v ws := by
 rcases h with h | ⟨b, off, cc, rfl, h1, h2, h3⟩
 · exact .inl h
 · refine .inr ⟨b, off, cc, rfl, h1, h2, fun i hi => ?_⟩
   have h4 := h3 i hi
   have e0 : (⟨B, 0, none⟩ : Addr) ≠ ⟨b, off + i, none⟩ := fun e => by rw [← e, h0] at h4; simp at h4
   exact (World.cell?_setCell_other _ _ _ _ e0).trans h4
theorem CtS.put0 {w wr : World} {B : Nat} {n : Bool} {p : Option Addr} {c : Nat} {ds : List Int} {z : Int} (h : CtS w wr B n p c ds z) {m : Bool} {y : Int} (hs : Sgn 10 m ds y) :
   CtS w (wr.setCell ⟨B, 0, none⟩ (.bool m)) B m p c ds y :=
 ⟨h.below.setCell (Nat.le_of_lt h.hB) _,
  ⟨(World.cell?_setCell_other _ _ _ _ (fun e => Nat.ne_of_lt h.hB (by injection e with e1 _; exact e1.symm))).trans h.res.c0, (World.cell?_setCell_other _ _ _ _ (fun e => Nat.ne_of_lt h.hB (by injection e with e1 _; exact e1.symm))).trans h.res.c1, by simp [h.res.f0], by simp [h.res.f1]⟩,
  ⟨World.cell?_setCell_same _ _ _ h.bx.c0, (World.cell?_setCell_other _ _ _ _ (by simp)).trans h.bx.c1, by simp [h.bx.f0], by simp [h.bx.f1]⟩,
  h.rb.set1 h.bx.c0 _, hs, h.hB⟩
theorem CtS.leave {w wr : World} {B : Nat} {n : Bool} {p : Option Addr} {c : Nat} {ds : List Int} {b : Nat} (h : CtS w wr B n p c ds (trZ b)) :
   Rb ((wr.setCell ⟨w.heap.size, 0, none⟩ (.bool n)).setCell ⟨w.heap.size, 1, none⟩ (.slice p ds.length c)) (.slice p ds.length c) ds ∧ Below w.heap.size w ((wr.setCell ⟨w.heap.size, 0, none⟩ (.bool n)).setCell ⟨w.heap.size, 1, none⟩ (.slice p ds.length c)) :=
 ⟨h.rb.set2 h.res _ _, (h.below.setCell (Nat.le_refl _) _).setCell (Nat.le_refl _) _⟩
theorem rcut_any (b : Nat) (hb : b < 18446744073709551616) (hn : nanB b = false) (hi : infB b = false) (w : World) :
   Calls Tryz.prog 82 #[.int .u64 (b : Int)] w (CtPost w b) := by
 have HPa := hid (fun W => rparts_any b hb W)
 have HBe := hid (fun W => below_anyB b hb W)
 have HG0 := hid (CtG.start b)
 have HZ := hid (show trZ b = if negB b = true then -((trV b : Nat) : Int) else ((trV b : Nat) : Int) from rfl)
 have hml := man_lt b
 have hel := exq_lo b
 obtain ⟨M, hM⟩ : ∃ M, manB b = M := ⟨_, rfl⟩
 obtain ⟨X, hX⟩ : ∃ X, exqB b = X := ⟨_, rfl⟩
 rw [hM] at HPa HG0 hml
 rw [hX] at HPa HG0 hel
 clear hM hX hn hi
 go_enter Tryz.func82, Tryz.ntmps82
 go_wp2_with (first | (go_at_call 121; (with_reducible refine (HPa.out _).mono ?_); rintro e w9 ⟨rfl, rfl⟩) | fail)
 obtain ⟨W1, hW1⟩ : ∃ x, w.alloc (.cells #[.bool false, .slice none 0 0] 45) = x := ⟨_, rfl⟩
 have HB1 := hid (show Below w.heap.size w W1 by rw [← hW1]; exact (Below.refl _ _).alloc (Nat.le_refl _) _)
 have HX1 := hid (show Box2 W1 w.heap.size (.bool false) (.slice none 0 0) by rw [← hW1]; exact Box2.new _ _ _ _ rfl)
 rw [hW1]
 clear hW1
 go_loopw [4, 5, 6] (fun s4 s5 s6 wr => ∃ (j m : Nat) (e : Int) (l : Bool), s4 = .int .u64 (m : Int) ∧ s5 = .int .i64 e ∧ s6 = .bool l ∧ CtG b j m e l ∧ W1 = wr) (fun s4 s5 s6 wr => (-(RowKit.intOf s5)).toNat)
 case atStart => exact ⟨0, M, X, false, rfl, rfl, rfl, HG0.out, rfl⟩
 case round =>
   obtain ⟨j, m, e, l, rfl, rfl, rfl, hG, rfl⟩ := hrel
   have HG := hid hG
   have hm := hG.lt
   obtain ⟨he1, he2⟩ := hG.hi
   clear hG
   by_cases hgo : e < 0 ∧ 0 < m
   · obtain ⟨hg1, hg2⟩ := hgo
     have HS := hid (HG.out.step hg1)
     cases l
     · simp only [Bool.false_or] at HS
       go_wp2_with fail
       exact ⟨⟨j + 1, m / 2, e + 1, decide (m % 2 = 1), by rw [Int.natCast_ediv]; rfl, rfl, by congr 1; rw [Bool.eq_iff_iff, beq_iff_eq, decide_eq_true_eq]; omega, HS.out, trivial⟩, by simp only [RowKit.intOf]; omega⟩
     · simp only [Bool.true_or] at HS
       go_wp2_with fail
       exact ⟨⟨j + 1, m / 2, e + 1, true, by rw [Int.natCast_ediv]; rfl, rfl, rfl, HS.out, trivial⟩, by simp only [RowKit.intOf]; omega⟩
   · obtain ⟨hv, hl⟩ := HG.out.stop hgo
     have HVv := hid hv
     have HLs := hid hl
     have HI := hid (i64_nat (n := m) (by omega))
     have hway : ¬ e < 0 ∨ (e < 0 ∧ ¬ 0 < m) := by omega
     clear hv hl hgo HG
     rcases hway with hw1 | ⟨hw1, hw2⟩
     · skip
       go_wp2_with fail
       refine (refint_any (m : Int) HI.out _).mono ?_
       rintro e3 w3 ⟨n3, u3, ds, rfl, hr3, hs3, hb3⟩
       obtain ⟨p3, c3, rfl, _, _, _⟩ := rb_form hr3
       have HB3 := hid (HB1.out.trans (hb3.mono HB1.out.size))
       have HX3 := hid (HX1.out.keep hb3)
       have HR3 := hid hr3
       have HS3 := hid hs3
       clear hr3 hs3 hb3
       go_upto_region 8 with fail
       obtain ⟨W4, hW4⟩ : ∃ x, w3.alloc (.cells #[.bool n3, .slice p3 ds.length c3] 45) = x := ⟨_, rfl⟩
       have hb4 : Below w3.heap.size w3 W4 := by rw [← hW4]; exact (Below.refl _ _).alloc (Nat.le_refl _) _
       have HS4 := hid (show CtS w W4 w3.heap.size n3 p3 c3 ds ((m * 2 ^ 0 : Nat) : Int) from
         ⟨HB3.out.trans (hb4.mono HB3.out.size), HX3.out.keep hb4, by rw [← hW4]; exact Box2.new _ _ _ _ rfl, HR3.out.keep hb4, by rw [Nat.pow_zero, Nat.mul_one]; exact HS3.out, HX3.out.lt⟩)
       rw [hW4]
       obtain ⟨B, hB⟩ : ∃ B, w3.heap.size = B := ⟨_, rfl⟩
       rw [hB] at HS4 ⊢
       clear hW4 hb4 hB HX3 HR3 HS3 HB3
       go_loopw [5] (fun s5 wr => ∃ (i : Nat) (n : Bool) (p : Option Addr) (c : Nat) (es : List Int), s5 = .int .i64 (e - (i : Int)) ∧ i ≤ e.toNat ∧ CtS w wr B n p c es ((m * 2 ^ i : Nat) : Int)) (fun s5 wr => (RowKit.intOf s5).toNat)
       case atStart => exact ⟨0, n3, p3, c3, ds, by simp, by omega, HS4.out⟩
       case round =>
         obtain ⟨i, n, p, c, es, rfl, hie, hC⟩ := hrel
         obtain ⟨w5, rfl⟩ : ∃ w5 : World, w5 = wr := ⟨_, rfl⟩
         have HC := hid hC
         have c0 := hC.bx.c0
         have c1 := hC.bx.c1
         have f0 := hC.bx.f0
         have f1 := hC.bx.f1
         have HSM := hid (HVv.out.small hie)
         have HLE := hid (HC.out.sg.fits.2 HSM.out)
         obtain ⟨y, hy⟩ : ∃ y : Int, e - (i : Int) = y := ⟨_, rfl⟩
         rw [hy]
         have hyl : -1074 ≤ y ∧ y ≤ 972 := by omega
         clear hC
         by_cases hgo : 0 < y ∧ 0 < m
         · obtain ⟨g1, g2⟩ := hgo
           have HY := hid (show y - 1 = e - ((i + 1 : Nat) : Int) by omega)
           have HI1 := hid (show i + 1 ≤ e.toNat by omega)
           clear hy hie
           go_wp2_with fail
           refine (plus_at HC.out.rb HC.out.rb HC.out.sg HC.out.sg (by have := HLE.out; omega) (by have := HLE.out; omega) (Below.refl w5.heap.size w5)).mono ?_
           rintro e6 w6 ⟨n6, p6, c6, fs, rfl, hr6, hs6, hb6, _⟩
           rw [dbl] at hs6
           have HC6 := hid (HC.out.keep hb6)
           have HC7 := hid (HC6.out.put hr6 hs6)
           clear c0 c1 f0 f1 hr6 hs6 hb6
           have c0 := HC6.out.bx.c0
           have c1 := HC6.out.bx.c1
           have f0 := HC6.out.bx.f0
           have f1 := HC6.out.bx.f1
           go_wp2_with fail
           exact ⟨⟨i + 1, n6, p6, c6, fs, by rw [HY.out], HI1.out, HC7.out⟩, by simp only [RowKit.intOf]; omega⟩
         · skip
           have HEQ := hid (show m * 2 ^ i = trV b by
             rw [HVv.out.eq]
             rcases Nat.eq_zero_or_pos m with h | h
             · rw [h, Nat.zero_mul, Nat.zero_mul]
             · rw [show i = e.toNat by omega])
           have hway2 : ¬ 0 < y ∨ (0 < y ∧ ¬ 0 < m) := by omega
           have HN := hid (show n = false by
             have h := HC.out.sg.neg_iff (by decide)
             rw [h, decide_eq_false_iff_not]; omega)
           obtain ⟨q, hq⟩ : ∃ q, decide (0 < es.length) = q := ⟨_, rfl⟩
           have hq2 : decide ((0 : Int) < (es.length : Int)) = q := by rw [← hq, decide_eq_decide]; omega
           have HQ := hid hq
           have HR0 := hid HC.out.res
           have d0 := HR0.out.c0
           have d1 := HR0.out.c1
           have k0 := HR0.out.f0
           have k1 := HR0.out.f1
           have hesl := HLE.out
           obtain ⟨ng, hng⟩ : ∃ ng, negB b = ng := ⟨_, rfl⟩
           rw [hng] at HBe HZ
           clear hy hgo hie hng hq
           cases ng
           · have HF := hid (HC.out.put0 (m := false) (y := trZ b) (by have h := HC.out.sg; rw [HN.out, HEQ.out] at h; rw [HZ.out]; exact h))
             rcases hway2 with hv1 | ⟨hv1, hv2⟩
             all_goals
               go_upto_region 12 with (first | (go_at_call 123; (with_reducible refine (HBe.out _).mono ?_); rintro e w9 ⟨rfl, rfl⟩) | fail)
               obtain ⟨W6, hW6⟩ : ∃ x, w5.setCell ⟨B, 0, none⟩ (.bool false) = x := ⟨_, rfl⟩
               rw [hW6] at HF ⊢
               clear c0 c1 f0 f1 d0 d1 k0 k1 hW6
               have c0 := HF.out.bx.c0
               have c1 := HF.out.bx.c1
               have d0 := HF.out.res.c0
               have d1 := HF.out.res.c1
               have k0 := HF.out.res.f0
               have k1 := HF.out.res.f1
               go_wp2_with fail
               have z2 := two_setW (x0 := .bool false) (x1 := .slice p es.length c) HF.out.res.c0 HF.out.res.c1
               refine bodyPost_ret (v := .tuple #[.agg #[.bool false, .slice p es.length c], .bool (lostB b)]) (by simp [results, Tryz.results82, go_sem, z2.1, z2.2, ← HLs.out]) rfl ⟨false, p, c, es, rfl, HF.out.leave.1, HF.out.sg, HF.out.leave.2⟩
           · have HF := hid (HC.out.put0 (m := q) (y := trZ b) (by have h := HC.out.sg; rw [HN.out, HEQ.out] at h; have h2 := h.turn (by decide); rw [HQ.out] at h2; rw [HZ.out]; simpa using h2))
             rcases hway2 with hv1 | ⟨hv1, hv2⟩
             all_goals
               go_upto_region 12 with (first | (go_at_call 123; (with_reducible refine (HBe.out _).mono ?_); rintro e w9 ⟨rfl, rfl⟩) | fail)
               (try rw [HQ.out])
               obtain ⟨W6, hW6⟩ : ∃ x, w5.setCell ⟨B, 0, none⟩ (.bool q) = x := ⟨_, rfl⟩
               rw [hW6] at HF ⊢
               clear c0 c1 f0 f1 d0 d1 k0 k1 hW6
               have c0 := HF.out.bx.c0
               have c1 := HF.out.bx.c1
               have d0 := HF.out.res.c0
               have d1 := HF.out.res.c1
               have k0 := HF.out.res.f0
               have k1 := HF.out.res.f1
               go_wp2_with fail
               have z2 := two_setW (x0 := .bool q) (x1 := .slice p es.length c) HF.out.res.c0 HF.out.res.c1
               refine bodyPost_ret (v := .tuple #[.agg #[.bool q, .slice p es.length c], .bool (lostB b)]) (by simp [results, Tryz.results82, go_sem, z2.1, z2.2, ← HLs.out]) rfl ⟨q, p, c, es, rfl, HF.out.leave.1, HF.out.sg, HF.out.leave.2⟩
     · skip
       go_wp2_with fail
       refine (refint_any (m : Int) HI.out _).mono ?_
       rintro e3 w3 ⟨n3, u3, ds, rfl, hr3, hs3, hb3⟩
       obtain ⟨p3, c3, rfl, _, _, _⟩ := rb_form hr3
       have HB3 := hid (HB1.out.trans (hb3.mono HB1.out.size))
       have HX3 := hid (HX1.out.keep hb3)
       have HR3 := hid hr3
       have HS3 := hid hs3
       clear hr3 hs3 hb3
       go_upto_region 8 with fail
       obtain ⟨W4, hW4⟩ : ∃ x, w3.alloc (.cells #[.bool n3, .slice p3 ds.length c3] 45) = x := ⟨_, rfl⟩
       have hb4 : Below w3.heap.size w3 W4 := by rw [← hW4]; exact (Below.refl _ _).alloc (Nat.le_refl _) _
       have HS4 := hid (show CtS w W4 w3.heap.size n3 p3 c3 ds ((m * 2 ^ 0 : Nat) : Int) from
         ⟨HB3.out.trans (hb4.mono HB3.out.size), HX3.out.keep hb4, by rw [← hW4]; exact Box2.new _ _ _ _ rfl, HR3.out.keep hb4, by rw [Nat.pow_zero, Nat.mul_one]; exact HS3.out, HX3.out.lt⟩)
       rw [hW4]
       obtain ⟨B, hB⟩ : ∃ B, w3.heap.size = B := ⟨_, rfl⟩
       rw [hB] at HS4 ⊢
       clear hW4 hb4 hB HX3 HR3 HS3 HB3
       go_loopw [5] (fun s5 wr => ∃ (i : Nat) (n : Bool) (p : Option Addr) (c : Nat) (es : List Int), s5 = .int .i64 (e - (i : Int)) ∧ i ≤ e.toNat ∧ CtS w wr B n p c es ((m * 2 ^ i : Nat) : Int)) (fun s5 wr => (RowKit.intOf s5).toNat)
       case atStart => exact ⟨0, n3, p3, c3, ds, by simp, by omega, HS4.out⟩
       case round =>
         obtain ⟨i, n, p, c, es, rfl, hie, hC⟩ := hrel
         obtain ⟨w5, rfl⟩ : ∃ w5 : World, w5 = wr := ⟨_, rfl⟩
         have HC := hid hC
         have c0 := hC.bx.c0
         have c1 := hC.bx.c1
         have f0 := hC.bx.f0
         have f1 := hC.bx.f1
         have HSM := hid (HVv.out.small hie)
         have HLE := hid (HC.out.sg.fits.2 HSM.out)
         obtain ⟨y, hy⟩ : ∃ y : Int, e - (i : Int) = y := ⟨_, rfl⟩
         rw [hy]
         have hyl : -1074 ≤ y ∧ y ≤ 972 := by omega
         clear hC
         have hgo : ¬ (0 < y ∧ 0 < m) := by omega
         have HEQ := hid (show m * 2 ^ i = trV b by
           rw [HVv.out.eq]
           rcases Nat.eq_zero_or_pos m with h | h
           · rw [h, Nat.zero_mul, Nat.zero_mul]
           · rw [show i = e.toNat by omega])
         have hway2 : ¬ 0 < y ∨ (0 < y ∧ ¬ 0 < m) := by omega
         have HN := hid (show n = false by
           have h := HC.out.sg.neg_iff (by decide)
           rw [h, decide_eq_false_iff_not]; omega)
         obtain ⟨q, hq⟩ : ∃ q, decide (0 < es.length) = q := ⟨_, rfl⟩
         have hq2 : decide ((0 : Int) < (es.length : Int)) = q := by rw [← hq, decide_eq_decide]; omega
         have HQ := hid hq
         have HR0 := hid HC.out.res
         have d0 := HR0.out.c0
         have d1 := HR0.out.c1
         have k0 := HR0.out.f0
         have k1 := HR0.out.f1
         have hesl := HLE.out
         obtain ⟨ng, hng⟩ : ∃ ng, negB b = ng := ⟨_, rfl⟩
         rw [hng] at HBe HZ
         clear hy hgo hie hng hq
         cases ng
         · have HF := hid (HC.out.put0 (m := false) (y := trZ b) (by have h := HC.out.sg; rw [HN.out, HEQ.out] at h; rw [HZ.out]; exact h))
           rcases hway2 with hv1 | ⟨hv1, hv2⟩
           all_goals
             go_upto_region 12 with (first | (go_at_call 123; (with_reducible refine (HBe.out _).mono ?_); rintro e w9 ⟨rfl, rfl⟩) | fail)
             obtain ⟨W6, hW6⟩ : ∃ x, w5.setCell ⟨B, 0, none⟩ (.bool false) = x := ⟨_, rfl⟩
             rw [hW6] at HF ⊢
             clear c0 c1 f0 f1 d0 d1 k0 k1 hW6
             have c0 := HF.out.bx.c0
             have c1 := HF.out.bx.c1
             have d0 := HF.out.res.c0
             have d1 := HF.out.res.c1
             have k0 := HF.out.res.f0
             have k1 := HF.out.res.f1
             go_wp2_with fail
             have z2 := two_setW (x0 := .bool false) (x1 := .slice p es.length c) HF.out.res.c0 HF.out.res.c1
             refine bodyPost_ret (v := .tuple #[.agg #[.bool false, .slice p es.length c], .bool (lostB b)]) (by simp [results, Tryz.results82, go_sem, z2.1, z2.2, ← HLs.out]) rfl ⟨false, p, c, es, rfl, HF.out.leave.1, HF.out.sg, HF.out.leave.2⟩
         · have HF := hid (HC.out.put0 (m := q) (y := trZ b) (by have h := HC.out.sg; rw [HN.out, HEQ.out] at h; have h2 := h.turn (by decide); rw [HQ.out] at h2; rw [HZ.out]; simpa using h2))
           rcases hway2 with hv1 | ⟨hv1, hv2⟩
           all_goals
             go_upto_region 12 with (first | (go_at_call 123; (with_reducible refine (HBe.out _).mono ?_); rintro e w9 ⟨rfl, rfl⟩) | fail)
             (try rw [HQ.out])
             obtain ⟨W6, hW6⟩ : ∃ x, w5.setCell ⟨B, 0, none⟩ (.bool q) = x := ⟨_, rfl⟩
             rw [hW6] at HF ⊢
             clear c0 c1 f0 f1 d0 d1 k0 k1 hW6
             have c0 := HF.out.bx.c0
             have c1 := HF.out.bx.c1
             have d0 := HF.out.res.c0
             have d1 := HF.out.res.c1
             have k0 := HF.out.res.f0
             have k1 := HF.out.res.f1
             go_wp2_with fail
             have z2 := two_setW (x0 := .bool q) (x1 := .slice p es.length c) HF.out.res.c0 HF.out.res.c1
             refine bodyPost_ret (v := .tuple #[.agg #[.bool q, .slice p es.length c], .bool (lostB b)]) (by simp [results, Tryz.results82, go_sem, z2.1, z2.2, ← HLs.out]) rfl ⟨q, p, c, es, rfl, HF.out.leave.1, HF.out.sg, HF.out.leave.2⟩
end
section
theorem text_show2 {n1 nn : Bool} {xs ds : List Int} {z : Int} (hx : Sgn B18 n1 xs z) (hd : Sgn 10 nn ds z) : nn = n1 ∧ showB nn ds = textB n1 xs := by
 have hn : nn = n1 := (hd.neg_iff (by decide)).trans (hx.neg_iff (by decide)).symm
 subst hn
 refine ⟨rfl, ?_⟩
 by_cases h0 : xs.length = 0
 · have hz := (hx.empty (by decide)).1 h0
   have hd0 := (hd.empty (by decide)).2 hz
   unfold showB textB
   rw [if_pos h0, if_pos hd0]
 · rw [text_show hx hd (by omega)]
   unfold textB
   rw [if_neg h0]
def TxAt (V : World) (s : ByteArray) (e : Ending) (w' : World) : Prop := e = .returned (.string s) ∧ Below V.heap.size V w'
def OfNum (V wx : World) (n1 : Bool) (xs : List Int) (e : Ending) (w' : World) : Prop :=
 ∃ p c ds, e = .returned (.agg #[.bool n1, .slice p (List.length ds) c]) ∧ Rb w' (.slice p ds.length c) ds ∧ Dig 10 ds ∧ ds.length ≤ 540 ∧ showB n1 ds = textB n1 xs ∧ Below V.heap.size V w' ∧ Below wx.heap.size wx w'
theorem ofnum_at {V wx : World} {n1 : Bool} {u1 : Value} {xs : List Int} {z : Int} (hr : Rd V u1 xs) (hs : Sgn B18 n1 xs z) (hl : xs.length ≤ 30) (hx : Below V.heap.size V wx) : Calls Tryz.prog 80 #[.agg #[.bool n1, u1]] wx (OfNum V wx n1 xs) := by
 refine (of_any n1 u1 xs z wx (hr.keep hx) hs (by omega)).mono ?_
 rintro e w' ⟨nn, u, ds, rfl, hrb, hs2, hb⟩
 obtain ⟨rfl, hsh⟩ := text_show2 hs hs2
 obtain ⟨p, c, rfl, _, _, _⟩ := rb_form hrb
 exact ⟨p, c, ds, rfl, hrb, hs2.canon.1, hs2.fits.2 (hs.small.1 hl), hsh, hx.trans (hb.mono hx.size), hb⟩
theorem show_at {V wx : World} {n1 : Bool} {u : Value} {xs ds : List Int} (hr : Rb wx u ds) (hd : Dig 10 ds) (hl : ds.length ≤ 540) (hsh : showB n1 ds = textB n1 xs) (hx : Below V.heap.size V wx) : Calls Tryz.prog 124 #[.agg #[.bool n1, u]] wx (TxAt V (textB n1 xs)) := by
 refine (show_any n1 u ds wx hr hd (by omega)).mono ?_
 rintro e w' ⟨rfl, hb⟩
 exact ⟨by rw [hsh], hx.trans (hb.mono hx.size)⟩
def OfR (b : Nat) (x : Int) (w : World) (e : Ending) (w' : World) : Prop := e = .returned (.tuple #[.int .u64 ((b : Nat) : Int), .int .i64 x]) ∧ Below w.heap.size w w'
theorem dof_bad (n1 : Bool) (u1 : Value) (xs : List Int) (w : World) (hr1 : Rd w u1 xs) (hf1 : Fit xs) (hg : goodB n1 xs = false) :
   Calls Tryz.prog 84 #[.agg #[.bool n1, u1]] w (OfR 0 3 w) := by
 obtain ⟨p, c, rfl, hc, hm, hp⟩ := rd_form hr1
 have hb1 : Below w.heap.size w (w.alloc (.cells #[.bool n1, .slice p xs.length c] 24)) := (Below.refl _ _).alloc (Nat.le_refl _) _
 have HG := hid (refgood_any n1 _ xs (w.alloc (.cells #[.bool n1, .slice p xs.length c] 24)) (hr1.keep hb1) hf1)
 have HB1 := hid hb1
 have HX1 := hid (Box2.new w (.bool n1) (.slice p xs.length c) 24 rfl)
 obtain ⟨W1, hW1⟩ : ∃ x, w.alloc (.cells #[.bool n1, .slice p xs.length c] 24) = x := ⟨_, rfl⟩
 rw [hW1] at HB1 HG HX1
 rw [hg] at HG
 have c0 := HX1.out.c0
 have c1 := HX1.out.c1
 clear hr1 hf1 hb1 hp hg
 go_enter Tryz.func84, Tryz.ntmps84
 go_wp2_with (first
   | (go_at_call 37; (try rw [hW1]); refine HG.out.mono ?_; rintro e w2 ⟨rfl, hb⟩; have HB2 := hid (HB1.out.trans (hb.mono HB1.out.size)); clear hb HG)
   | fail)
 go_ret2
 exact ⟨rfl, HB2.out⟩
theorem dof_good (n1 : Bool) (u1 : Value) (xs : List Int) (F : Nat) (w : World) (hr1 : Rd w u1 xs) (hf1 : Fit xs) (hg : goodB n1 xs = true) (hF2 : F < 18446744073709551616)
   (hPF : ∀ W, Below w.heap.size w W → Calls Tryz.prog 79 #[.string (textB n1 xs), .int .i64 64] W fun r w' => (∃ v, r = .returned (.tuple #[.float .f64 F, v])) ∧ Below W.heap.size W w') :
   Calls Tryz.prog 84 #[.agg #[.bool n1, u1]] w (OfR (if infB F = true then 0 else F) (if infB F = true then 7 else 0) w) := by
 obtain ⟨hS, hL⟩ := goodB_sgn (neg := n1) (ws := xs) hg hf1
 have HON := hid (fun W (h : Below w.heap.size w W) => ofnum_at (V := w) (wx := W) hr1 hS hL h)
 obtain ⟨p, c, rfl, hc, hm, hp⟩ := rd_form hr1
 have hb1 : Below w.heap.size w (w.alloc (.cells #[.bool n1, .slice p xs.length c] 24)) := (Below.refl _ _).alloc (Nat.le_refl _) _
 have HG := hid (refgood_any n1 _ xs (w.alloc (.cells #[.bool n1, .slice p xs.length c] 24)) (hr1.keep hb1) hf1)
 have HB1 := hid hb1
 have HX1 := hid (Box2.new w (.bool n1) (.slice p xs.length c) 24 rfl)
 obtain ⟨W1, hW1⟩ : ∃ x, w.alloc (.cells #[.bool n1, .slice p xs.length c] 24) = x := ⟨_, rfl⟩
 rw [hW1] at HB1 HG HX1
 rw [hg] at HG
 have c0 := HX1.out.c0
 have c1 := HX1.out.c1
 have HSH := hid (fun (wx : World) (u : Value) (ds : List Int) (hr : Rb wx u ds) (hd : Dig 10 ds) (hl : ds.length ≤ 540) (hsh : showB n1 ds = textB n1 xs) (hx : Below w.heap.size w wx) => show_at (V := w) hr hd hl hsh hx)
 have HPF := hid hPF
 have HI := hid (risInf_any F hF2)
 obtain ⟨fi, hfi⟩ : ∃ fi, infB F = fi := ⟨_, rfl⟩
 rw [hfi] at HI ⊢
 clear hr1 hf1 hb1 hp hg hPF hS hL hF2 hfi
 go_enter Tryz.func84, Tryz.ntmps84
 go_upto_region 3 with (first
   | (go_at_call 37; (try rw [hW1]); refine HG.out.mono ?_; rintro e w2 ⟨rfl, hb⟩; have HB2 := hid (HB1.out.trans (hb.mono HB1.out.size)); have d0 := bcl hb c0; have d1 := bcl hb c1; clear hb HG)
   | fail)
 clear c0 c1 hW1
 cases fi
 all_goals
   go_wp2_with (first
     | (go_at_call 80; refine (HON.out _ HB2.out).mono ?_; rintro e w3 ⟨p3, k3, ds, rfl, hrb, hd, hl, hsh, hb3, _⟩; have HB3 := hid hb3; have HS3 := hid (HSH.out w3 _ ds hrb hd hl hsh hb3); clear hb3 hrb hd hl hsh)
     | (go_at_call 124; refine HS3.out.mono ?_; rintro e w4 ⟨rfl, hb4⟩; have HB4 := hid hb4; clear hb4)
     | (go_at_call 79; (with_reducible refine (HPF.out _ HB4.out).mono ?_); rintro e w5 ⟨⟨v5, rfl⟩, hb5⟩; have HB5 := hid (HB4.out.trans (hb5.mono HB4.out.size)); clear hb5)
     | (go_at_call 81; (with_reducible refine (HI.out _).mono ?_); rintro e w9 ⟨rfl, rfl⟩)
     | fail)
   go_ret2
   exact ⟨rfl, HB5.out⟩
theorem dwh_nan (b : Nat) (hb : b < 18446744073709551616) (hn : nanB b = true) (w : World) :
   Calls Tryz.prog 42 #[.int .u64 (b : Int)] w fun e w' => e = .returned (.tuple #[.agg #[.bool false, .slice none 0 0], .int .i64 1]) ∧ Below w.heap.size w w' := by
 have HN := hid (risNaN_any b hb)
 rw [hn] at HN
 go_enter Tryz.func42, Tryz.ntmps42
 go_wp2_with (first
   | (go_at_call 59; (with_reducible refine (HN.out _).mono ?_); rintro e w9 ⟨rfl, rfl⟩)
   | fail)
 have z := Box2.new w (.bool false) (.slice none 0 0) 24 rfl
 have z1 := z.c0
 have z2 := z.c1
 exact bodyPost_ret (v := .tuple #[.agg #[.bool false, .slice none 0 0], .int .i64 1]) (by simp [results, Tryz.results42, go_sem, z1, z2]) rfl ⟨rfl, (Below.refl _ _).alloc (Nat.le_refl _) _⟩
theorem dwh_inf (b : Nat) (hb : b < 18446744073709551616) (hn : nanB b = false) (hi : infB b = true) (w : World) :
   Calls Tryz.prog 42 #[.int .u64 (b : Int)] w fun e w' => e = .returned (.tuple #[.agg #[.bool false, .slice none 0 0], .int .i64 7]) ∧ Below w.heap.size w w' := by
 have HN := hid (risNaN_any b hb)
 rw [hn] at HN
 have HI := hid (risInf_any b hb)
 rw [hi] at HI
 clear hn hi
 go_enter Tryz.func42, Tryz.ntmps42
 go_wp2_with (first
   | (go_at_call 59; (with_reducible refine (HN.out _).mono ?_); rintro e w9 ⟨rfl, rfl⟩)
   | (go_at_call 81; (with_reducible refine (HI.out _).mono ?_); rintro e w9 ⟨rfl, rfl⟩)
   | fail)
 have z := Box2.new w (.bool false) (.slice none 0 0) 24 rfl
 have z1 := z.c0
 have z2 := z.c1
 exact bodyPost_ret (v := .tuple #[.agg #[.bool false, .slice none 0 0], .int .i64 7]) (by simp [results, Tryz.results42, go_sem, z1, z2]) rfl ⟨rfl, (Below.refl _ _).alloc (Nat.le_refl _) _⟩
end
end Go.Proofs.YtlhfemgimieooaaGreatDoor
