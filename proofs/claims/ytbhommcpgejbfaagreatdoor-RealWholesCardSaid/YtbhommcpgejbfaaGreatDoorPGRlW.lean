/- real.Whole: a float cut to a whole number, at any float. real.CmpBig at any float and any number. -/
import Derived.Test.YtbhommcpgejbfaaGreatDoorPGRlT
import Derived.Test.YtbhommcpgejbfaaGreatDoorPGRlG
import Derived.Test.YtbhommcpgejbfaaGreatDoorPGWg
import Derived.Test.YtbhommcpgejbfaaGreatDoorPGWk
import Derived.Test.YtbhommcpgejbfaaGreatDoorPGWa
namespace Go.Proofs.YtbhommcpgejbfaaGreatDoor
section
open Go Go.ChangeShapes Go.WideShapes Go.ChangeAt Go.RowKit
set_option linter.unusedVariables false
set_option linter.unusedSimpArgs false
/-- What Whole answers of a finite number. -/
def WholePost (W : World) (z : Int) (e : Ending) (w' : World) : Prop :=
  ∃ n p c ws, e = .returned (.tuple #[.agg #[.bool n, .slice p (List.length ws) c], .int .i64 0]) ∧ Rd w' (.slice p ws.length c) ws ∧ Sgn B18 n ws z ∧ Below W.heap.size W w'
theorem toint_z (b : Nat) (hx : nanB b = false) (hi : b % fSG ≠ fIN) (hl : trV b < 9007199254740992) (w : World) : (convert 39 3 (.float .f64 (tcB b))).run Tryz.prog w = .ok (.int .i64 (trZ b)) w := by
  obtain ⟨t1, t2, t3, t4, t5⟩ := tc_all b hx hi
  have e1 : trV (tcB b) = trV b := by
    unfold trV at t5 ⊢
    rw [t5, mdp]
  have h := run_toint (tcB b) t1 (Nat.ne_of_lt t4) (by rw [e1]; exact hl) w
  rw [e1, t2] at h
  exact h
set_option maxRecDepth 100000 in
set_option maxHeartbeats 4000000 in
theorem whole_small (b : Nat) (hb : b < 18446744073709551616) (hn : nanB b = false) (hi : infB b = false) (hl : trV b < 9007199254740992) (w : World) :
    Calls Tryz.prog 7 #[.int .u64 (b : Int)] w (WholePost w (trZ b)) := by
  have hif : b % fSG ≠ fIN := by unfold infB at hi; simpa using hi
  have HNn := Lib.hid (fun W => isNaN_any b W)
  have HIn := Lib.hid (fun W => isInf0 b hb hn W)
  have HTr := Lib.hid (fun W => trunc_any b hn hif W)
  have HNu := Lib.hid (fun W => number_any b W)
  obtain ⟨t1, t2, t3, t4, t5⟩ := tc_all b hn hif
  have HAb := Lib.hid (fun W => abs_one (tcB b) (tcB b % fSG) (andNot_u (tcB b) t3) W)
  have h1 := small_d b hn hif
  rw [decide_eq_true hl] at h1
  have hC := fun W => toint_z b hn hif hl W
  obtain ⟨zl, zh⟩ := trZ_i64 hl
  rw [hn] at HNn
  rw [hi] at HIn
  obtain ⟨z, hz⟩ : ∃ z, trZ b = z := ⟨_, rfl⟩
  obtain ⟨t, ht⟩ : ∃ t, tcB b = t := ⟨_, rfl⟩
  rw [hz] at hC zl zh ⊢
  rw [ht] at hC HAb HTr h1
  have HI : I64 z := ⟨zl, zh⟩
  have HI' := Lib.hid HI
  clear hz t1 t2 t3 t4 t5 ht hn hi hif hl HI
  go_enter Tryz.func7, Tryz.ntmps7
  go_wp2_with (first
    | (go_at_call 23; (with_reducible refine (HNu.out _).mono ?_); rintro e w9 ⟨rfl, rfl⟩)
    | (go_at_call 24; (with_reducible refine (HNn.out _).mono ?_); rintro e w9 ⟨rfl, rfl⟩)
    | (go_at_call 13; (with_reducible refine (HIn.out _).mono ?_); rintro e w9 ⟨rfl, rfl⟩)
    | (go_at_call 25; (with_reducible refine (HTr.out _).mono ?_); rintro e w9 ⟨rfl, rfl⟩)
    | (go_at_call 26; (with_reducible refine (HAb.out _).mono ?_); rintro e w9 ⟨rfl, rfl⟩)
    | fail)
  obtain ⟨W1, hW1⟩ : ∃ x, w.alloc (.cells #[.bool false, .slice none 0 0] 25) = x := ⟨_, rfl⟩
  have hB1 : Below w.heap.size w W1 := by rw [← hW1]; exact (Below.refl _ _).alloc (Nat.le_refl _) _
  have hbx : Box2 W1 w.heap.size (.bool false) (.slice none 0 0) := by rw [← hW1]; exact Box2.new _ _ _ _ rfl
  rw [hW1]
  clear hW1
  refine (wof_at HI'.out (Below.refl W1.heap.size W1)).mono ?_
  rintro e w2 ⟨n, p, c, ws, rfl, hR, hS, hB, _⟩
  have HR := Lib.hid hR
  have HS := Lib.hid hS
  have HB := Lib.hid (hB1.trans (hB.mono hB1.size))
  have hb2 := hbx.keep hB
  have c0 := hb2.c0
  have c1 := hb2.c1
  have f0 := hb2.f0
  have f1 := hb2.f1
  have HX := Lib.hid hb2
  clear hR hS hB hB1 hbx hb2
  go_wp2_with fail
  have z2 := two_setW (x0 := .bool n) (x1 := .slice p ws.length c) HX.out.c0 HX.out.c1
  refine bodyPost_ret (v := .tuple #[.agg #[.bool n, .slice p ws.length c], .int .i64 0]) (by simp [results, Tryz.results7, go_sem, z2.1, z2.2]) rfl ⟨n, p, c, ws, rfl, HR.out.putN HX.out _ _, HS.out, ?_⟩
  exact (HB.out.setCell (Nat.le_refl _) _).setCell (Nat.le_refl _) _
/-- A small power of two in limbs. -/
theorem i64_nat {n : Nat} (h : n < 9223372036854775808) : I64 ((n : Nat) : Int) := ⟨by omega, by omega⟩
theorem mul_at {W wx : World} {n1 : Bool} {u1 : Value} {xs : List Int} {z1 : Int} {n2 : Bool} {u2 : Value} {ys : List Int} {z2 : Int} (hr1 : Rd wx u1 xs) (hr2 : Rd wx u2 ys) (hs1 : Sgn B18 n1 xs z1) (hs2 : Sgn B18 n2 ys z2) (hl1 : xs.length ≤ 30) (hl2 : ys.length ≤ 30) (hx : Below W.heap.size W wx) :
    Calls Tryz.prog 30 #[.agg #[.bool n1, u1], .agg #[.bool n2, u2]] wx (PAt W wx (ResCase (z1 * z2))) := by
  refine (mul_good n1 u1 xs z1 n2 u2 ys z2 wx hr1 hr2 hs1 hs2 hl1 hl2).mono ?_
  rintro e w' ⟨n, u, ws, er, rfl, hM, hB, hc⟩
  obtain ⟨p, c, rfl⟩ := MU.form hM
  exact ⟨n, p, c, ws, er, rfl, hM.rd (ResCase.len17 hc), hc, hx.trans (hB.mono hx.size), hB⟩
set_option maxRecDepth 100000 in
set_option maxHeartbeats 4000000 in
theorem whole_great (b : Nat) (hb : b < 18446744073709551616) (hn : nanB b = false) (hi : infB b = false) (hl : ¬ trV b < 9007199254740992) (w : World) :
    Calls Tryz.prog 7 #[.int .u64 (b : Int)] w (WholePost w (trZ b)) := by
  have hif : b % fSG ≠ fIN := by unfold infB at hi; simpa using hi
  have HNn := Lib.hid (fun W => isNaN_any b W)
  have HIn := Lib.hid (fun W => isInf0 b hb hn W)
  have HTr := Lib.hid (fun W => trunc_any b hn hif W)
  have HNu := Lib.hid (fun W => number_any b W)
  have HPa := Lib.hid (fun W => parts_any b hb W)
  obtain ⟨t1, t2, t3, t4, t5⟩ := tc_all b hn hif
  have HAb := Lib.hid (fun W => abs_one (tcB b) (tcB b % fSG) (andNot_u (tcB b) t3) W)
  have HSg := Lib.hid (fun W => signed_any (tcB b) t3 W)
  rw [t2] at HSg
  have h1 := small_d b hn hif
  rw [decide_eq_false hl] at h1
  have he := exq_pos hl
  have HM := Lib.hid (tr_mul he)
  have hml := man_lt b
  have hel := (exq_lo b).2
  have HSM := Lib.hid (tr_small b)
  have HSP := Lib.hid (exq_small (b := b))
  have HZ := Lib.hid (show trZ b = if negB b = true then -((trV b : Nat) : Int) else ((trV b : Nat) : Int) from rfl)
  rw [hn] at HNn
  rw [hi] at HIn
  obtain ⟨z, hz⟩ : ∃ z, trZ b = z := ⟨_, rfl⟩
  obtain ⟨t, ht⟩ : ∃ t, tcB b = t := ⟨_, rfl⟩
  obtain ⟨M, hM⟩ : ∃ M, manB b = M := ⟨_, rfl⟩
  obtain ⟨X, hX⟩ : ∃ X, (exqB b).toNat = X := ⟨_, rfl⟩
  obtain ⟨V, hV⟩ : ∃ V : Int, ((trV b : Nat) : Int) = V := ⟨_, rfl⟩
  have hXi : exqB b = (X : Int) := by omega
  rw [hXi] at HPa hel
  rw [hz] at HZ ⊢
  rw [hM] at HPa HM hml
  rw [hX] at HM HSP
  rw [hV] at HM HSM HZ
  rw [ht] at HAb HTr HSg h1
  clear hz t1 t2 t3 t4 t5 ht hn hi hif hl hM hX hV hXi he
  go_enter Tryz.func7, Tryz.ntmps7
  go_wp2_with (first
    | (go_at_call 23; (with_reducible refine (HNu.out _).mono ?_); rintro e w9 ⟨rfl, rfl⟩)
    | (go_at_call 24; (with_reducible refine (HNn.out _).mono ?_); rintro e w9 ⟨rfl, rfl⟩)
    | (go_at_call 13; (with_reducible refine (HIn.out _).mono ?_); rintro e w9 ⟨rfl, rfl⟩)
    | (go_at_call 25; (with_reducible refine (HTr.out _).mono ?_); rintro e w9 ⟨rfl, rfl⟩)
    | (go_at_call 26; (with_reducible refine (HAb.out _).mono ?_); rintro e w9 ⟨rfl, rfl⟩)
    | (go_at_call 28; (with_reducible refine (HPa.out _).mono ?_); rintro e w9 ⟨rfl, rfl⟩)
    | fail)
  obtain ⟨W1, hW1⟩ : ∃ x, w.alloc (.cells #[.bool false, .slice none 0 0] 25) = x := ⟨_, rfl⟩
  have hB1 : Below w.heap.size w W1 := by rw [← hW1]; exact (Below.refl _ _).alloc (Nat.le_refl _) _
  have hbx : Box2 W1 w.heap.size (.bool false) (.slice none 0 0) := by rw [← hW1]; exact Box2.new _ _ _ _ rfl
  rw [hW1]
  clear hW1
  refine (wofn_at (n := 2) ⟨by decide, by decide⟩ (Below.refl W1.heap.size W1)).mono ?_
  rintro e w2 ⟨n2, p2, c2, ws2, rfl, hR2, hS2, hB2, _⟩
  have hbx2 := hbx.keep hB2
  have hB2' := hB1.trans (hB2.mono hB1.size)
  go_wp2_with fail
  refine (wofn_at (n := (X : Int)) ⟨by omega, by omega⟩ (Below.refl w2.heap.size w2)).mono ?_
  rintro e w3 ⟨n3, p3, c3, ws3, rfl, hR3, hS3, hB3, _⟩
  have hbx3 := hbx2.keep hB3
  have hB3' := hB2'.trans (hB3.mono hB2'.size)
  have hR2' := hR2.keep hB3
  have hl2 : ws2.length ≤ 30 := hS2.small.2 (I64.small ⟨by decide, by decide⟩)
  have hl3 : ws3.length ≤ 30 := hS3.small.2 (I64.small ⟨by omega, by omega⟩)
  clear hbx hbx2 hB1 hB2 hB2' hB3
  go_wp2_with fail
  refine (pow_at hR2' hR3 hS2 hS3 hl2 hl3 (by omega) (Below.refl w3.heap.size w3)).mono ?_
  rintro e w4 ⟨n4, p4, c4, ws4, er, rfl, hR4, hC4, hB4, _⟩
  rw [show ((X : Int)).toNat = X from Int.toNat_natCast X] at hC4
  obtain rfl := hC4.er0 HSP.out
  have HS4 := Lib.hid hC4.ok
  have HB4 := Lib.hid (hB3'.trans (hB4.mono hB3'.size))
  have HX4 := Lib.hid (hbx3.keep hB4)
  have HR4 := Lib.hid hR4
  have HL4 := Lib.hid (HS4.out.small.2 HSP.out)
  clear hR2 hR3 hS2 hS3 hl2 hl3 hR2' hB4 hB3' hbx3 hR4 hC4
  go_wp2_with fail
  obtain ⟨W5, hW5⟩ : ∃ x, w4.alloc (.cells #[.bool n4, .slice p4 ws4.length c4] 25) = x := ⟨_, rfl⟩
  have hb5 : Below w4.heap.size w4 W5 := by rw [← hW5]; exact (Below.refl _ _).alloc (Nat.le_refl _) _
  have HB5 := Lib.hid (HB4.out.trans (hb5.mono HB4.out.size))
  have HX5 := Lib.hid (HX4.out.keep hb5)
  have RX := Lib.hid (HR4.out.keep hb5)
  have HD5 := Lib.hid (show Box2 W5 w4.heap.size (.bool n4) (.slice p4 ws4.length c4) by rw [← hW5]; exact Box2.new _ _ _ _ rfl)
  rw [hW5]
  have cDa := HD5.out.c0
  have cDb := HD5.out.c1
  have cDl := HD5.out.lt
  have HMI := Lib.hid (i64_nat (n := M) (by omega))
  clear hW5 hb5 HR4 HX4 HB4
  have CO := Lib.hid (fun (wx : World) (hx : Below W5.heap.size W5 wx) => wofn_at (n := (M : Int)) HMI.out hx)
  have HML := Lib.hid (fun (n : Bool) (ws : List Int) (h : Sgn B18 n ws (M : Int)) => h.small.2 (I64.small HMI.out))
  go_cut [9, 10] (fun p q wx => ∃ bA nA pA cA lA eA, p = .pointer (some ⟨bA, 0, none⟩) ∧ q = .int .i64 eA ∧ W5.heap.size ≤ bA ∧ PR W5 wx bA nA pA cA lA eA (ResCase ((M : Int) * 2 ^ X)))
  case first =>
    go_region_held3 (fun w' => w'.cell? ⟨w4.heap.size, 0, none⟩ = some (.bool n4) ∧ w'.cell? ⟨w4.heap.size, 1, none⟩ = some (.slice p4 ws4.length c4))
      ((repeat' apply And.intro) <;> (repeat' (first | with_reducible assumption | with_reducible refine alloc_cell ?_ _ | (with_reducible refine cell_set2 ?_ ?_ _ _; · omega) | with_reducible refine drew_cell ?_)))
      (first
       | (go_at_call 27; (with_reducible refine (CO.out _ (by ((repeat' (first | with_reducible assumption | with_reducible exact Below.refl _ _ | with_reducible refine Below.drew ?_ | with_reducible refine Below.alloc ?_ (by first | omega | (simp; omega) | (simp; done) | fail) _ | with_reducible refine Below.setCell ?_ (by first | omega | (simp; omega) | (simp; done) | fail) _ | fail)); (first | done | fail)))).mono ?_); rintro e v1 ⟨nn, pn, cn, wn, rfl, hRn, hSn, hv1, hx1⟩; have kX0_1 := below_cell hv1 cDa; have kX1_1 := below_cell hv1 cDb; have zv1 := hv1.size; (try (have hBox := Box2.keep (B := W5.heap.size) (a := (.bool false)) (b := (.slice none 0 0)) (by ((repeat' (first | with_reducible assumption | (with_reducible exact Hid.out ‹_›) | (with_reducible refine Box2.put0 _ _ ?_) | (with_reducible refine Box2.new _ _ _ _ ?_; (first | with_reducible rfl | (simp; done) | rfl)) | (with_reducible refine Box2.alloc ?_ _) | (with_reducible refine Box2.drew ?_) | (with_reducible refine Box2.set2 ?hn _ _ ?_; case hn => omega) | fail)); (first | done | fail))) hx1; obtain ⟨_, _, _, _, _, _, _, _⟩ := hBox.all)); have RN := Lib.hid hRn; have SN := Lib.hid hSn; clear hRn hSn hx1)
       | (go_at_call 30; (with_reducible refine (mul_at (W := W5) (show Rd _ (.slice pn wn.length cn) wn by ((repeat' (first | with_reducible exact RN.out | with_reducible refine Rd.alloc ?_ _ | with_reducible refine Rd.drew ?_ | fail)); (first | done | fail))) (RX.out.keep (by ((repeat' (first | with_reducible assumption | with_reducible exact Below.refl _ _ | with_reducible refine Below.drew ?_ | with_reducible refine Below.alloc ?_ (by first | omega | (simp; omega) | (simp; done) | fail) _ | with_reducible refine Below.setCell ?_ (by first | omega | (simp; omega) | (simp; done) | fail) _ | fail)); (first | done | fail)))) SN.out HS4.out (HML.out _ _ SN.out) HL4.out (by ((repeat' (first | with_reducible assumption | with_reducible exact Below.refl _ _ | with_reducible refine Below.drew ?_ | with_reducible refine Below.alloc ?_ (by first | omega | (simp; omega) | (simp; done) | fail) _ | with_reducible refine Below.setCell ?_ (by first | omega | (simp; omega) | (simp; done) | fail) _ | fail)); (first | done | fail)))).mono ?_); rintro e v2 ⟨nA, pA, cA, lA, eA, rfl, hRA, hCA, hv2, hx2⟩; have kX0_2 := below_cell hv2 cDa; have kX1_2 := below_cell hv2 cDb; have zv2 := hv2.size; (try (have hBox := Box2.keep (B := W5.heap.size) (a := (.bool false)) (b := (.slice none 0 0)) (by ((repeat' (first | with_reducible assumption | (with_reducible exact Hid.out ‹_›) | (with_reducible refine Box2.put0 _ _ ?_) | (with_reducible refine Box2.new _ _ _ _ ?_; (first | with_reducible rfl | (simp; done) | rfl)) | (with_reducible refine Box2.alloc ?_ _) | (with_reducible refine Box2.drew ?_) | (with_reducible refine Box2.set2 ?hn _ _ ?_; case hn => omega) | fail)); (first | done | fail))) hx2; obtain ⟨_, _, _, _, _, _, _, _⟩ := hBox.all)); (try (have hBox := Box2.keep (B := v1.heap.size) (a := (.bool false)) (b := (.slice none 0 0)) (by ((repeat' (first | with_reducible assumption | (with_reducible exact Hid.out ‹_›) | (with_reducible refine Box2.put0 _ _ ?_) | (with_reducible refine Box2.new _ _ _ _ ?_; (first | with_reducible rfl | (simp; done) | rfl)) | (with_reducible refine Box2.alloc ?_ _) | (with_reducible refine Box2.drew ?_) | (with_reducible refine Box2.set2 ?hn _ _ ?_; case hn => omega) | fail)); (first | done | fail))) hx2; obtain ⟨_, _, _, _, _, _, _, _⟩ := hBox.all)); have RA := Lib.hid hRA; have CA := Lib.hid hCA; clear hRA hCA hx2))
    all_goals (go_wp2_with fail)
    all_goals go_meet
    all_goals exact ⟨_, nA, pA, cA, lA, eA, rfl, rfl, (by first | exact Nat.le_refl _ | omega | (simp; done) | (simp; omega)), ⟨by ((repeat' (first | with_reducible assumption | with_reducible exact Below.refl _ _ | with_reducible refine Below.drew ?_ | with_reducible refine Below.alloc ?_ (by first | omega | (simp; omega) | (simp; done) | fail) _ | with_reducible refine Below.setCell ?_ (by first | omega | (simp; omega) | (simp; done) | fail) _ | fail)); (first | done | fail)), by ((repeat' (first | with_reducible assumption | (with_reducible exact Hid.out ‹_›) | (with_reducible refine Box2.put0 _ _ ?_) | (with_reducible refine Box2.new _ _ _ _ ?_; (first | with_reducible rfl | (simp; done) | rfl)) | (with_reducible refine Box2.alloc ?_ _) | (with_reducible refine Box2.drew ?_) | (with_reducible refine Box2.set2 ?hn _ _ ?_; case hn => omega) | fail)); (first | done | fail)), by ((repeat' (first | with_reducible exact RA.out | (with_reducible refine Rd.putN ?hb _ _ ?_; case hb => ((repeat' (first | with_reducible assumption | (with_reducible exact Hid.out ‹_›) | (with_reducible refine Box2.put0 _ _ ?_) | (with_reducible refine Box2.new _ _ _ _ ?_; (first | with_reducible rfl | (simp; done) | rfl)) | (with_reducible refine Box2.alloc ?_ _) | (with_reducible refine Box2.drew ?_) | (with_reducible refine Box2.set2 ?hn _ _ ?_; case hn => omega) | fail)); (first | done | fail))) | with_reducible refine Rd.alloc ?_ _ | with_reducible refine Rd.drew ?_ | fail)); (first | done | fail)), CA.out⟩⟩
  case rest =>
    obtain ⟨be, ne, pe, ce, le, ee, rfl, rfl, hbe, hPR⟩ := hcut
    have hlt : w.heap.size < be := Nat.lt_of_lt_of_le HX5.out.lt hbe
    have HLE := Lib.hid (Nat.le_of_lt hlt)
    have hne : be ≠ w.heap.size := Nat.ne_of_gt hlt
    clear hlt
    have hb6 := hPR.below
    obtain ⟨w6, rfl⟩ : ∃ w6 : World, w6 = wc := ⟨_, rfl⟩
    have hC6 := hPR.case
    rw [← HM.out] at hC6
    obtain rfl := hC6.er0 HSM.out
    have HS6 := Lib.hid hC6.ok
    have HB6 := Lib.hid (HB5.out.trans (hb6.mono HB5.out.size))
    have HX6 := Lib.hid (HX5.out.keep hb6)
    have HE6 := Lib.hid hPR.x1
    have HR6 := Lib.hid hPR.r1
    have cE0 := HE6.out.c0
    have cE1 := HE6.out.c1
    have cEl := HE6.out.lt
    have cF0 := HE6.out.f0
    have cF1 := HE6.out.f1
    clear hPR CO RX hb6 cDa cDb cDl HX5 HB5 HD5 hC6
    cases hg : negB b
    · rw [hg] at HSg HZ
      clear hg
      simp only [Bool.false_eq_true, if_false] at HZ
      have d0 := HX6.out.c0
      have d1 := HX6.out.c1
      have g0 := HX6.out.f0
      have g1 := HX6.out.f1
      go_wp2_with (first | (go_at_call 31; (with_reducible refine (HSg.out _).mono ?_); rintro e w9 ⟨rfl, rfl⟩) | fail)
      have z2 := two_setW (x0 := .bool ne) (x1 := .slice pe le.length ce) HX6.out.c0 HX6.out.c1
      refine bodyPost_ret (v := .tuple #[.agg #[.bool ne, .slice pe le.length ce], .int .i64 0]) (by simp [results, Tryz.results7, go_sem, z2.1, z2.2]) rfl ⟨ne, pe, ce, le, rfl, HR6.out.putN HX6.out _ _, by rw [HZ.out]; exact HS6.out, ?_⟩
      exact (HB6.out.setCell (Nat.le_refl _) _).setCell (Nat.le_refl _) _
    · rw [hg] at HSg HZ
      clear hg
      simp only [if_true] at HZ
      have HL6 := Lib.hid (HS6.out.small.2 HSM.out)
      go_wp2_with (first | (go_at_call 31; (with_reducible refine (HSg.out _).mono ?_); rintro e w9 ⟨rfl, rfl⟩) | fail)
      refine (neg_at HR6.out HS6.out HL6.out (Below.refl w6.heap.size w6)).mono ?_
      rintro e w7 ⟨n7, p7, c7, ws7, rfl, hR7, hS7, hB7, _⟩
      have HB7 := Lib.hid (HB6.out.trans (hB7.mono HB6.out.size))
      have HX7 := Lib.hid (HX6.out.keep hB7)
      have HE7 := Lib.hid (HE6.out.keep hB7)
      have HR7 := Lib.hid hR7
      have HS7 := Lib.hid hS7
      have e0 := HE7.out.c0
      have e1 := HE7.out.c1
      have k0 := HE7.out.f0
      have k1 := HE7.out.f1
      clear hR7 hS7 hB7 cE0 cE1 cEl cF0 cF1
      go_upto_region 14 with fail
      obtain ⟨W8, hW8⟩ : ∃ x, (w7.setCell ⟨be, 0, none⟩ (.bool n7)).setCell ⟨be, 1, none⟩ (.slice p7 ws7.length c7) = x := ⟨_, rfl⟩
      have HB8 := Lib.hid (show Below w.heap.size w W8 by rw [← hW8]; exact (HB7.out.setCell HLE.out _).setCell HLE.out _)
      have HX8 := Lib.hid (show Box2 W8 w.heap.size (.bool false) (.slice none 0 0) by rw [← hW8]; exact HX7.out.set2 (fun h => hne h.symm) _ _)
      have HE8 := Lib.hid (show Box2 W8 be (.bool n7) (.slice p7 ws7.length c7) by rw [← hW8]; exact HE7.out.put _ _)
      have HR8 := Lib.hid (show Rd W8 (.slice p7 ws7.length c7) ws7 by rw [← hW8]; exact HR7.out.put2 HE7.out _ _)
      rw [hW8]
      clear e0 e1 k0 k1 hW8
      have d0 := HX8.out.c0
      have d1 := HX8.out.c1
      have g0 := HX8.out.f0
      have g1 := HX8.out.f1
      have e0 := HE8.out.c0
      have e1 := HE8.out.c1
      go_wp2_with fail
      have z2 := two_setW (x0 := .bool n7) (x1 := .slice p7 ws7.length c7) HX8.out.c0 HX8.out.c1
      refine bodyPost_ret (v := .tuple #[.agg #[.bool n7, .slice p7 ws7.length c7], .int .i64 0]) (by simp [results, Tryz.results7, go_sem, z2.1, z2.2]) rfl ⟨n7, p7, c7, ws7, rfl, HR8.out.putN HX8.out _ _, by rw [HZ.out]; exact HS7.out, ?_⟩
      exact (HB8.out.setCell (Nat.le_refl _) _).setCell (Nat.le_refl _) _
/-- real.Whole of any finite number. -/
theorem whole_any (b : Nat) (hb : b < 18446744073709551616) (hn : nanB b = false) (hi : infB b = false) (w : World) :
    Calls Tryz.prog 7 #[.int .u64 (b : Int)] w (WholePost w (trZ b)) := by
  by_cases hl : trV b < 9007199254740992
  · exact whole_small b hb hn hi hl w
  · exact whole_great b hb hn hi hl w
end
section
open Go Go.ChangeShapes Go.WideShapes Go.ChangeAt Go.RowKit
set_option linter.unusedVariables false
set_option linter.unusedSimpArgs false
/-- A finite float beside a whole number. -/
def cbZ (a : Nat) (z : Int) : Int := if cmpI (trZ a) z ≠ 0 then cmpI (trZ a) z else if lostB a = true then (if negB a = true then -1 else 1) else 0
def cbV (a : Nat) (n1 : Bool) (xs : List Int) : Int := if (nanB a || !goodB n1 xs) = true then 0 else if infB a = true then (if negB a = true then -1 else 1) else cbZ a (sg n1 (val B18 xs))
def cbB (a : Nat) (n1 : Bool) (xs : List Int) : Bool := !(nanB a || !goodB n1 xs)
theorem cmp_tc (a : Nat) (hn : nanB a = false) (hi : a % fSG ≠ fIN) : cmV a (tcB a) = (if lostB a = true then (if negB a = true then -1 else 1) else 0) ∧ cmB a (tcB a) = true := by
  obtain ⟨t1, t2, t3, t4, t5⟩ := tc_all a hn hi
  obtain ⟨p1, p2⟩ := place_tc a hn hi
  constructor
  · unfold cmV
    rw [if_neg (by rw [hn, t1]; simp)]
    unfold cmpZ
    cases hl : lostB a
    · rw [p1 hl]; simp
    · have h := p2 hl
      cases hg : negB a
      · rw [hg] at h
        simp only [Bool.false_eq_true, if_false] at h
        rw [if_neg (by omega), if_pos h]; rfl
      · rw [hg] at h
        simp only [if_true] at h
        rw [if_pos h]; rfl
  · unfold cmB; rw [hn, t1]; rfl
theorem pat_tc (a : Nat) (hn : nanB a = false) (hi : a % fSG ≠ fIN) : patB (tcB a) = tcB a := by
  obtain ⟨t1, _⟩ := tc_all a hn hi
  unfold patB; rw [t1, if_neg (by decide)]
end
end Go.Proofs.YtbhommcpgejbfaaGreatDoor
