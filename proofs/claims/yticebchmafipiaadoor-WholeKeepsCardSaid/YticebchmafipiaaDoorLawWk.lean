/- Layer 2: the law WholeKeeps, walked, at every input. -/
import Derived.Test.YticebchmafipiaaDoorWkL0
import Derived.Deep.CutRange
namespace Go.Proofs.YticebchmafipiaaDoor
open Go Go.ChangeShapes Go.WideShapes Go.ChangeAt Go.RowKit
set_option linter.unusedVariables false
set_option linter.unusedSimpArgs false
set_option maxRecDepth 100000 in
set_option maxHeartbeats 16000000 in
theorem law_keeps (n1 : Bool) (u1 : Value) (xs : List Int) (n2 : Bool) (u2 : Value) (ys : List Int) (w : World) (hr1 : Rd w u1 xs) (hf1 : Fit xs) (hr2 : Rd w u2 ys) (hf2 : Fit ys) :
    Calls Tryd.prog 4 #[.agg #[.bool n1, u1], .agg #[.bool n2, u2]] w (BoolPost w true) := by
  have HR1 := Lib.hid hr1
  have HF1 := Lib.hid hf1
  have HR2 := Lib.hid hr2
  have HF2 := Lib.hid hf2
  obtain ⟨p1, c1, rfl, _, hm1, _⟩ := rd_form hr1
  obtain ⟨p2, c2, rfl, _, hm2, _⟩ := rd_form hr2
  clear hr1 hf1 hr2 hf2
  go_enter Tryd.func4, Tryd.ntmps4
  go_wp2_with fail
  generalize hw1 : World.alloc (World.alloc w _) _ = w1
  have HB1 := Lib.hid (show Below w.heap.size w w1 by rw [← hw1]; exact ((Below.refl _ _).alloc (Nat.le_refl _) _).alloc (by simp) _)
  have HX1 := Lib.hid (show Box2 w1 w.heap.size (.bool n1) (.slice p1 xs.length c1) by rw [← hw1]; exact (Box2.new _ _ _ _ rfl).alloc _)
  have HY1 := Lib.hid (show Box2 w1 (w.heap.size + 1) (.bool n2) (.slice p2 ys.length c2) by rw [← hw1]; exact Box2.new _ _ _ _ (by simp))
  clear hw1
  refine (known_true w1).mono ?_
  rintro e w2 ⟨rfl, hb2⟩
  have HB2 := Lib.hid (HB1.out.trans (hb2.mono HB1.out.size))
  have HX2 := Lib.hid (HX1.out.keep hb2)
  have HY2 := Lib.hid (HY1.out.keep hb2)
  clear HX1 HY1 HB1 hb2
  have x0 := HX2.out.c0
  have x1 := HX2.out.c1
  have y0 := HY2.out.c0
  have y1 := HY2.out.c1
  have lx := HX2.out.lt
  have ly := HY2.out.lt
  have HCR := Lib.hid (fun (wx : World) (hx : Below w2.heap.size w2 wx) => room_at (HR1.out.keep HB2.out) hx)
  go_wp2_with fail
  go_cut [5] (fun a wx => ∃ ba ga, a = .pointer (some ⟨ba, 0, none⟩) ∧ RB w2 wx n1 xs ba ga)
  case first =>
    go_region_held3 (fun w' => w'.cell? ⟨w.heap.size, 0, none⟩ = some (.bool n1) ∧ w'.cell? ⟨w.heap.size, 1, none⟩ = some (.slice p1 xs.length c1))
      ((repeat' apply And.intro) <;> (repeat' (first | with_reducible assumption | with_reducible refine alloc_cell ?_ _ | (with_reducible refine cell_set2 ?_ ?_ _ _; · omega) | with_reducible refine drew_cell ?_)))
      (first
       | (go_at_call 13; (with_reducible refine (HCR.out _ (by ((repeat' (first | with_reducible assumption | with_reducible exact Below.refl _ _ | with_reducible refine Below.drew ?_ | with_reducible refine Below.alloc ?_ (by first | omega | (simp; omega) | (simp; done) | fail) _ | with_reducible refine Below.setCell ?_ (by first | omega | (simp; omega) | (simp; done) | fail) _ | fail)); (first | done | fail)))).mono ?_); rintro e w3 ⟨ga, rfl, hL3, hg3, hb3, hx3⟩; have k0 := below_cell hb3 x0; have k1 := below_cell hb3 x1; have z3 := hb3.size; (try (have hBox := Box2.keep (B := w2.heap.size) (a := (.bool false)) (b := (.slice none 0 0)) (by ((repeat' (first | assumption | (with_reducible exact Hid.out ‹_›) | (with_reducible refine Box2.put0 _ _ ?_) | (with_reducible refine Box2.new _ _ _ _ ?_; (first | with_reducible rfl | (simp; done) | rfl)) | (with_reducible refine Box2.alloc ?_ _) | (with_reducible refine Box2.drew ?_) | (with_reducible refine Box2.set2 ?hn _ _ ?_; case hn => omega) | fail)); (first | done | fail))) hx3; obtain ⟨_, _, _, _, _, _, _, _⟩ := hBox.all)); clear hx3)
       | fail)
    all_goals (go_wp2_with fail)
    all_goals go_meet
    all_goals first
      | exact ⟨_, ga, rfl, RB.mk1 hL3 (by simpa using hg3) hb3 (by ((repeat' (first | assumption | (with_reducible exact Hid.out ‹_›) | (with_reducible refine Box2.put0 _ _ ?_) | (with_reducible refine Box2.new _ _ _ _ ?_; (first | with_reducible rfl | (simp; done) | rfl)) | (with_reducible refine Box2.alloc ?_ _) | (with_reducible refine Box2.drew ?_) | (with_reducible refine Box2.set2 ?hn _ _ ?_; case hn => omega) | fail)); (first | done | fail)))⟩
      | exact ⟨_, ga, rfl, RB.mk3 (W := w2) hL3 hg3 hb3⟩
  case rest =>
    obtain ⟨ba, ga, rfl, hRA⟩ := hcut
    have HRA := Lib.hid hRA
    have hs3 := hRA.low.size
    have k0 := below_cell hRA.low y0
    have k1 := below_cell hRA.low y1
    clear hRA x0 x1 y0 y1 HCR
    have HCR := Lib.hid (fun (wx : World) (hx : Below wc.heap.size wc wx) => room_at ((HR2.out.keep HB2.out).keep HRA.out.low) hx)
    go_wp2_with fail
    go_cut [6] (fun a wx => ∃ bb gb, a = .pointer (some ⟨bb, 0, none⟩) ∧ RB wc wx n2 ys bb gb)
    case first =>
      go_region_held3 (fun w' => w'.cell? ⟨w.heap.size + 1, 0, none⟩ = some (.bool n2) ∧ w'.cell? ⟨w.heap.size + 1, 1, none⟩ = some (.slice p2 ys.length c2))
        ((repeat' apply And.intro) <;> (repeat' (first | with_reducible assumption | with_reducible refine alloc_cell ?_ _ | (with_reducible refine cell_set2 ?_ ?_ _ _; · omega) | with_reducible refine drew_cell ?_)))
        (first
         | (go_at_call 13; (with_reducible refine (HCR.out _ (by ((repeat' (first | with_reducible assumption | with_reducible exact Below.refl _ _ | with_reducible refine Below.drew ?_ | with_reducible refine Below.alloc ?_ (by first | omega | (simp; omega) | (simp; done) | fail) _ | with_reducible refine Below.setCell ?_ (by first | omega | (simp; omega) | (simp; done) | fail) _ | fail)); (first | done | fail)))).mono ?_); rintro e w3 ⟨gb, rfl, hL3, hg3, hb3, hx3⟩; have j0 := below_cell hb3 k0; have j1 := below_cell hb3 k1; have z3 := hb3.size; (try (have hBox := Box2.keep (B := wc.heap.size) (a := (.bool false)) (b := (.slice none 0 0)) (by ((repeat' (first | assumption | (with_reducible exact Hid.out ‹_›) | (with_reducible refine Box2.put0 _ _ ?_) | (with_reducible refine Box2.new _ _ _ _ ?_; (first | with_reducible rfl | (simp; done) | rfl)) | (with_reducible refine Box2.alloc ?_ _) | (with_reducible refine Box2.drew ?_) | (with_reducible refine Box2.set2 ?hn _ _ ?_; case hn => omega) | fail)); (first | done | fail))) hx3; obtain ⟨_, _, _, _, _, _, _, _⟩ := hBox.all)); clear hx3)
         | fail)
      all_goals (go_wp2_with fail)
      all_goals go_meet
      all_goals first
        | exact ⟨_, gb, rfl, RB.mk1 hL3 (by simpa using hg3) hb3 (by ((repeat' (first | assumption | (with_reducible exact Hid.out ‹_›) | (with_reducible refine Box2.put0 _ _ ?_) | (with_reducible refine Box2.new _ _ _ _ ?_; (first | with_reducible rfl | (simp; done) | rfl)) | (with_reducible refine Box2.alloc ?_ _) | (with_reducible refine Box2.drew ?_) | (with_reducible refine Box2.set2 ?hn _ _ ?_; case hn => omega) | fail)); (first | done | fail)))⟩
        | exact ⟨_, gb, rfl, RB.mk3 (W := wc) hL3 hg3 hb3⟩
    case rest =>
      obtain ⟨bb, gb, rfl, hRB⟩ := hcut
      obtain ⟨w4, rfl⟩ : ∃ w4 : World, w4 = wc := ⟨_, rfl⟩
      have HK := Lib.hid (KF.mk2 HB2.out HX2.out HY2.out HRA.out hRB)
      clear hRB k0 k1 HCR HX2 HY2 HRA HB2 hs3 lx ly
      have hx4 := HK.out.low.size
      go_wp2_with fail
      go_loopw [7, 8, 9] (fun lv wv nv wr => ∃ (k : Nat) (zs : List Big1) (cs : List (Bool × Value)), nv = .int .i64 k ∧ k ≤ 2 ∧ zs.length = 8 * k ∧ cs.length = zs.length ∧ KI w4.heap.size wr lv wv zs zs.length cs ∧ ZS n1 xs n2 ys zs ∧ Below w4.heap.size w4 wr) (fun _ _ nv _ => 2 - (intOf nv).toNat)
      case atStart => exact ⟨0, [], [], by go_num, by omega, rfl, rfl, KI.nil (Nat.le_refl _), ZS.nil, Below.refl _ _⟩
      case round =>
        obtain ⟨k, zs, cs, rfl, hk, hzl, hcl, hKI, hZS, hBL⟩ := hrel
        obtain ⟨pl, cl, rfl⟩ := owns_form0 hKI.ls
        obtain ⟨pw, cw, rfl⟩ := owns_form0 hKI.was
        obtain ⟨v0, rfl⟩ : ∃ v0 : World, v0 = wr := ⟨_, rfl⟩
        have HKI := Lib.hid hKI
        have HZS := Lib.hid hZS
        have HK0 := Lib.hid (HK.out.keep hBL)
        have HL0 := Lib.hid (Below.refl v0.heap.size v0)
        have HZ0 := Lib.hid (RZ.nil (w := v0) (H := v0.heap.size))
        have HBL := Lib.hid hBL
        clear hKI hZS hBL
        by_cases hlt : k < 2
        rotate_left
        · obtain rfl : k = 2 := by omega
          have hzl : zs.length = 16 := hzl
          have hcl : cs.length = 16 := by omega
          have hkz : ¬ ((2 : Int) < 2) := by omega
          have HZL := Lib.hid hzl
          have HCL := Lib.hid hcl
          clear HL0 HZ0 hlt hk
          go_wp2_with fail
          go_loopw [26] (fun iv wr => ∃ i : Nat, iv = .int .i64 i ∧ i ≤ 8 ∧ Below v0.heap.size v0 wr) (fun iv _ => 8 - (intOf iv).toNat)
          case atStart => exact ⟨0, by go_num, by omega, Below.refl _ _⟩
          case round =>
            obtain ⟨i, rfl, hi, hbw⟩ := hrel
            have HBW := Lib.hid hbw
            clear hbw
            by_cases hi8 : i < 8
            · obtain ⟨ga1, pa1, ca1, ea1, qa0, qa1, hma⟩ := (HKI.out.keep HBW.out).copyAt rfl (i := i) (by rw [HCL.out]; omega)
              obtain ⟨gb1, pb1, cb1, eb1, qb0, qb1, hmb⟩ := (HKI.out.keep HBW.out).copyAt rfl (i := i + 8) (by rw [HCL.out]; omega)
              have htw := HZS.out.twice (i := i) (by rw [HZL.out]; omega)
              have hlen := HKI.out.rz.len i (by rw [HZL.out]; omega)
              subst ea1
              obtain rfl : ga1 = gb1 := by simpa using eb1
              rw [← htw.1] at qb0
              rw [← htw.2] at qb1 hmb
              have HSM := Lib.hid (fun (wx : World) (hx : Below wr.heap.size wr wx) => same_atK (n := (zs.getD i bz).n) (hma.rd (by omega)) (hmb.rd (by omega)) hx)
              clear hma hmb htw hlen eb1
              generalize (zs.getD i bz).n = N at qa0 qb0 HSM
              generalize (zs.getD i bz).ws = WS at qa1 qb1 HSM
              have hiz : (i : Int) < 8 := by omega
              have hw8 : IntKind.i64.wrap ((i : Int) + 8) = (i : Int) + 8 := IntWalk.i64_in _ (by omega)
              have hi18 : (0 : Int) ≤ (i : Int) + 8 := by omega
              have htn : ((i : Int) + 8).toNat = i + 8 := by omega
              have hi16 : (i : Int) < 16 := by omega
              have hi17 : (i : Int) + 8 < 16 := by omega
              go_wp2_with fail
              go_region_held3 (fun w' => w'.cell? ⟨ga1, i * 2, none⟩ = some (.bool N) ∧ w'.cell? ⟨ga1, i * 2 + 1, none⟩ = some (.slice pa1 WS.length ca1) ∧ w'.cell? ⟨ga1, (i + 8) * 2, none⟩ = some (.bool N) ∧ w'.cell? ⟨ga1, (i + 8) * 2 + 1, none⟩ = some (.slice pb1 WS.length cb1))
                (first | go_keep | (with_reducible exact ⟨below_cell hb qa0, below_cell hb qa1, below_cell hb qb0, below_cell hb qb1⟩) | fail)
                (first
                 | (go_at_call 22; (with_reducible refine (HSM.out _ (by ((repeat' (first | with_reducible assumption | with_reducible exact Below.refl _ _ | with_reducible refine Below.drew ?_ | with_reducible refine Below.alloc ?_ (by first | omega | (simp; omega) | (simp; done) | fail) _ | with_reducible refine Below.setCell ?_ (by first | omega | (simp; omega) | (simp; done) | fail) _ | fail)); (first | done | fail)))).mono ?_); rintro e v ⟨rfl, hb⟩; have HB := Lib.hid hb)
                 | fail)
              all_goals (go_wp2_with fail)
              all_goals go_roundw
              case rel => exact ⟨i + 1, by go_num, by omega, HBW.out.trans (HB.out.mono HBW.out.size)⟩
              case measure => simp [intOf]; omega
            · obtain rfl : i = 8 := by omega
              have hiz : ¬ ((8 : Int) < 8) := by omega
              have HKw := Lib.hid (HK0.out.keep HBW.out)
              have ca0 := HKw.out.a.c1
              have ca1 := HKw.out.b.c1
              have ca2 := HKw.out.x.c1
              have ca3 := HKw.out.y.c1
              have HKP1 := Lib.hid (fun (wx : World) (hx : Below wr.heap.size wr wx) => kept_any ga (.slice p1 xs.length c1) xs wx (HKw.out.ra.keep hx) ((HR1.out.keep HKw.out.low).keep hx))
              have HKP2 := Lib.hid (fun (wx : World) (hx : Below wr.heap.size wr wx) => kept_any gb (.slice p2 ys.length c2) ys wx (HKw.out.rb.keep hx) ((HR2.out.keep HKw.out.low).keep hx))
              go_wp2_with (first
                | (go_at_call 23; (with_reducible refine (HKP1.out _ (Below.refl _ _)).mono ?_); rintro e v1 ⟨rfl, hb1⟩; have HV1 := Lib.hid hb1; have cb1 := below_cell hb1 ca1; have cb3 := below_cell hb1 ca3; clear hb1)
                | (go_at_call 23; (with_reducible refine (HKP2.out _ HV1.out).mono ?_); rintro e v2 ⟨rfl, hb2⟩; have HV2 := Lib.hid (HV1.out.trans (hb2.mono HV1.out.size)); clear hb2)
                | fail)
              have HK2 := Lib.hid (HKw.out.keep HV2.out)
              have HKI2 := Lib.hid (HKI.out.keep (HBW.out.trans (HV2.out.mono HBW.out.size)))
              have hga := HK.out.ra.lt
              clear ca0 ca1 ca2 ca3 cb1 cb3 HKP1 HKP2
              go_loopw [27] (fun iv wr => ∃ (i : Nat) (os : List Int), iv = .int .i64 i ∧ i ≤ xs.length ∧ os.length = xs.length + 6 ∧ (∀ j, j < i → os.getD j 0 = 3) ∧ LU wr ga os ∧ v2.grownBy wr (some ga)) (fun iv _ => xs.length - (intOf iv).toNat)
              case atStart => exact ⟨0, roomL xs, by go_num, by omega, roomL_len xs, fun j hj => by omega, HK2.out.ra, World.grownBy.refl v2 _⟩
              case round =>
                obtain ⟨i, os, rfl, hi, hol, h3, hL, hg⟩ := hrel
                have HA := Lib.hid (HK2.out.a.far hg (Ne.symm HK2.out.d1))
                have a1 := HA.out.c1
                have HOL := Lib.hid hol
                have H3 := Lib.hid h3
                have HLL := Lib.hid hL
                have HG := Lib.hid hg
                clear hol h3 hL hg
                by_cases hx : i < xs.length
                · have hiz : (i : Int) < (xs.length : Int) := by omega
                  have hox := HLL.out.cell (i := i) (by rw [HOL.out]; omega)
                  have hfr := HLL.out.frozen i
                  go_wp2_with fail
                  go_roundw
                  case rel => exact ⟨i + 1, os.set i 3, by go_num, by omega, by rw [List.length_set]; exact HOL.out, fun j hj => by
                    rw [getD_set' _ _ _ _ (by rw [HOL.out]; omega)]
                    split
                    · rfl
                    · exact H3.out j (by omega), HLL.out.set i 3, grown_set HG.out⟩
                  case measure => simp [intOf]; omega
                · obtain rfl : i = xs.length := by omega
                  have hiz : ¬ ((xs.length : Int) < (xs.length : Int)) := by omega
                  obtain ⟨w7, rfl⟩ : ∃ w7 : World, w7 = wr := ⟨_, rfl⟩
                  have HKI7 := Lib.hid (HKI2.out.far (fun b hb hlt => HG.out.block b hlt (fun e => by have := Option.some.inj e; omega)) HG.out.size)
                  have HRA7 := Lib.hid (rd_threes HLL.out HOL.out H3.out hm1)
                  have HB7 := Lib.hid (HK2.out.b.far HG.out (Ne.symm HK2.out.d2))
                  have HY7 := Lib.hid (HK2.out.y.far HG.out (by have := HK2.out.d0; omega))
                  have HRB7 := Lib.hid (room_rd (HK2.out.rb.block (HG.out.block gb HK2.out.rb.lt (fun e => HK2.out.d3 (Option.some.inj e).symm))) hm2)
                  have HLW7 := Lib.hid (HK2.out.low.grown HG.out HK2.out.low.size (fun q hq => by have := HK2.out.d0; have := Option.some.inj hq; omega))
                  have HRY7 := Lib.hid (HR2.out.keep HLW7.out)
                  have HA7 := HA
                  clear HA HOL H3 HLL HG HK2 HKI2 HKI
                  go_wp2_with fail
                  go_loopw [28] (fun iv wr => ∃ i : Nat, iv = .int .i64 i ∧ i ≤ 16 ∧ Below w7.heap.size w7 wr) (fun iv _ => 16 - (intOf iv).toNat)
                  case atStart => exact ⟨0, by go_num, by omega, Below.refl _ _⟩
                  case round =>
                    obtain ⟨i, rfl, hi, hbw⟩ := hrel
                    have HBX := Lib.hid hbw
                    clear hbw
                    by_cases hi8 : i < 16
                    · obtain ⟨gc, pc, cc, rfl, qa0, qa1, hma⟩ := (HKI7.out.keep HBX.out).copyAt rfl (i := i) (by rw [HCL.out]; omega)
                      obtain ⟨gr, pr, cr, rfl, qb1, hmb⟩ := (HKI7.out.keep HBX.out).rowAt (i := i) (by rw [HZL.out]; omega)
                      have hlen := HKI7.out.rz.len i (by rw [HZL.out]; omega)
                      have HSM := Lib.hid (fun (wx : World) (hx : Below wr.heap.size wr wx) => same_atK (n := (zs.getD i bz).n) (hmb.rd (by omega)) (hma.rd (by omega)) hx)
                      clear hma hmb hlen
                      generalize (zs.getD i bz).n = N at qa0 HSM
                      generalize (zs.getD i bz).ws = WS at qa1 qb1 HSM
                      have hi16 : (i : Int) < 16 := by omega
                      go_wp2_with fail
                      go_region_held3 (fun w' => w'.cell? ⟨gc, i * 2, none⟩ = some (.bool N) ∧ w'.cell? ⟨gc, i * 2 + 1, none⟩ = some (.slice pc WS.length cc) ∧ w'.cell? ⟨gr, i, none⟩ = some (.slice pr WS.length cr))
                        (first | go_keep | (with_reducible exact ⟨below_cell hb qa0, below_cell hb qa1, below_cell hb qb1⟩) | fail)
                        (first
                         | (go_at_call 22; (with_reducible refine (HSM.out _ (by ((repeat' (first | with_reducible assumption | with_reducible exact Below.refl _ _ | with_reducible refine Below.drew ?_ | with_reducible refine Below.alloc ?_ (by first | omega | (simp; omega) | (simp; done) | fail) _ | with_reducible refine Below.setCell ?_ (by first | omega | (simp; omega) | (simp; done) | fail) _ | fail)); (first | done | fail)))).mono ?_); rintro e v ⟨rfl, hb⟩; have HB := Lib.hid hb)
                         | fail)
                      all_goals (go_wp2_with fail)
                      all_goals go_roundw
                      case rel => exact ⟨i + 1, by go_num, by omega, HBX.out.trans (HB.out.mono HBX.out.size)⟩
                      case measure => simp [intOf]; omega
                    · obtain rfl : i = 16 := by omega
                      have hi16 : ¬ ((16 : Int) < 16) := by omega
                      obtain ⟨T3, hT3⟩ : ∃ T3, List.replicate xs.length (3 : Int) = T3 := ⟨_, rfl⟩
                      have HF3 := Lib.hid (show Fit T3 by rw [← hT3]; exact fit_threes _)
                      have hl3 : T3.length = xs.length := by rw [← hT3]; simp
                      rw [hT3] at HRA7
                      have HA8 := Lib.hid (HA7.out.keep HBX.out)
                      have HB8 := Lib.hid (HB7.out.keep HBX.out)
                      have HY8 := Lib.hid (HY7.out.keep HBX.out)
                      have HRA8 := Lib.hid (HRA7.out.keep HBX.out)
                      have HRB8 := Lib.hid (HRB7.out.keep HBX.out)
                      have HRY8 := Lib.hid (HRY7.out.keep HBX.out)
                      have HKI8 := Lib.hid (HKI7.out.keep HBX.out)
                      have HL8 := Lib.hid (HLW7.out.trans (HBX.out.mono HLW7.out.size))
                      have HL3 := Lib.hid hl3
                      clear hT3 HA7 HB7 HY7 HRA7 HRB7 HRY7 HKI7 a1 hl3
                      have ca0 := HA8.out.c0
                      have ca1 := HA8.out.c1
                      go_wp2_with fail
                      refine (copy_any n1 _ T3 wr HRA8.out).mono ?_
                      rintro e x1 ⟨Un, rfl, hmn, hb⟩
                      obtain ⟨Pn, Cn, rfl⟩ := MU.form hmn
                      have HRN := Lib.hid (show Rd x1 (.slice Pn T3.length Cn) T3 from hmn.rd (by rw [HL3.out]; exact hm1))
                      have HA9 := Lib.hid (HA8.out.keep hb)
                      have HB9 := Lib.hid (HB8.out.keep hb)
                      have HL9 := Lib.hid (HL8.out.trans (hb.mono HL8.out.size))
                      have HBW1 := Lib.hid hb
                      clear ca0 ca1 hmn hb HA8 HB8
                      have ca0 := HA9.out.c0
                      have ca1 := HA9.out.c1
                      have la := HA9.out.lt
                      have cb0 := HB9.out.c0
                      have cb1 := HB9.out.c1
                      have lb := HB9.out.lt
                      go_wp2_with fail
                      generalize hw : World.alloc x1 _ = x2
                      have hb : Below x1.heap.size x1 x2 := by rw [← hw]; exact (Below.refl _ _).alloc (Nat.le_refl _) _
                      have HN2 := Lib.hid (show Box2 x2 x1.heap.size (.bool n1) (.slice Pn T3.length Cn) by rw [← hw]; exact Box2.new _ _ _ _ rfl)
                      have HW2 := Lib.hid (HBW1.out.trans (hb.mono HBW1.out.size))
                      have HL2 := Lib.hid (HL9.out.trans (hb.mono HL9.out.size))
                      have HRN2 := Lib.hid (HRN.out.keep hb)
                      clear ca0 ca1 la cb0 cb1 lb hb hw HA9 HB9 HRN HBW1 HL9
                      refine (add_all n1 _ T3 n2 _ ys x2 (HRA8.out.keep HW2.out) HF3.out (HRB8.out.keep HW2.out) HF2.out).mono ?_
                      rintro e x3 ⟨Ns, Us, Ls, Es, rfl, hm, hq, hb⟩
                      obtain ⟨Ps, Cs, rfl⟩ := MU.form hm
                      have HQS := Lib.hid hq
                      have HRZ := Lib.hid (RZ.one (z := ⟨Ns, .slice Ps Ls.length Cs, Ls⟩) hm hq.len)
                      have HB3 := Lib.hid hb
                      have HN3 := Lib.hid (HN2.out.keep hb)
                      have HW3 := Lib.hid (HW2.out.trans (hb.mono HW2.out.size))
                      have HY3 := Lib.hid (HY8.out.keep HW3.out)
                      clear hm hq hb HN2
                      have cn0 := HN3.out.c0
                      have cn1 := HN3.out.c1
                      have ln := HN3.out.lt
                      have cy0 := HY3.out.c0
                      have cy1 := HY3.out.c1
                      have ly := HY3.out.lt
                      go_wp2_with fail
                      generalize hw : World.alloc x3 _ = x4
                      have hb : Below x3.heap.size x3 x4 := by rw [← hw]; exact (Below.refl _ _).alloc (Nat.le_refl _) _
                      have HS4 := Lib.hid (show Box2 x4 x3.heap.size (.bool Ns) (.slice Ps Ls.length Cs) by rw [← hw]; exact Box2.new _ _ _ _ rfl)
                      have HB4 := Lib.hid (HB3.out.trans (hb.mono HB3.out.size))
                      have HZ4 := Lib.hid (HRZ.out.keep hb)
                      clear cn0 cn1 ln cy0 cy1 ly hb hw HRZ HN3 HY3
                      refine (add_all n1 _ T3 n2 _ ys x4 (HRN2.out.keep HB4.out) HF3.out (HRY8.out.keep (HW2.out.trans (HB4.out.mono HW2.out.size))) HF2.out).mono ?_
                      rintro e x5 ⟨Nt, Ut, Lt, Et, rfl, hm, hq, hb⟩
                      obtain ⟨rfl, rfl, rfl⟩ := HQS.out.uniq hq
                      obtain ⟨Pt, Ct, rfl⟩ := MU.form hm
                      have HZ5 := Lib.hid (HZ4.out.add (n := Ns) HB4.out.size hb hm hq.len)
                      have HS5 := Lib.hid (HS4.out.keep hb)
                      have HB5 := Lib.hid (HB4.out.trans (hb.mono HB4.out.size))
                      have HLN := Lib.hid hq.len
                      have HRS5 := Lib.hid (show Rd x5 (.slice Ps Ls.length Cs) Ls from (HZ5.out.mu 0 (by simp)).rd (Nat.le_trans hq.len (by omega)))
                      have HRT5 := Lib.hid (show Rd x5 (.slice Pt Ls.length Ct) Ls from hm.rd (Nat.le_trans hq.len (by omega)))
                      clear hm hq hb HZ4 HS4
                      have cs0 := HS5.out.c0
                      have cs1 := HS5.out.c1
                      have ls := HS5.out.lt
                      have hee : (Es == Es) = true := by simp
                      go_wp2_with fail
                      generalize hw : World.alloc x5 _ = x6
                      have hb : Below x5.heap.size x5 x6 := by rw [← hw]; exact (Below.refl _ _).alloc (Nat.le_refl _) _
                      have HT6 := Lib.hid (show Box2 x6 x5.heap.size (.bool Ns) (.slice Pt Ls.length Ct) by rw [← hw]; exact Box2.new _ _ _ _ rfl)
                      have HS6 := Lib.hid (HS5.out.keep hb)
                      have HB6 := Lib.hid (HB5.out.trans (hb.mono HB5.out.size))
                      have HRS6 := Lib.hid (HRS5.out.keep hb)
                      have HRT6 := Lib.hid (HRT5.out.keep hb)
                      have HZ6 := Lib.hid (HZ5.out.keep hb)
                      clear cs0 cs1 ls hb hw HS5 HRS5 HRT5 HZ5
                      refine (same_self Ns _ _ Ls x6 HRS6.out HRT6.out).mono ?_
                      rintro e x7 ⟨rfl, hb⟩
                      have HB7 := Lib.hid (HB6.out.trans (hb.mono HB6.out.size))
                      have HS7 := Lib.hid (HS6.out.keep hb)
                      have HT7 := Lib.hid (HT6.out.keep hb)
                      have HL7 := Lib.hid (HL2.out.trans (HB7.out.mono HL2.out.size))
                      obtain ⟨st, hst⟩ : ∃ st : List Big1, st = [⟨Ns, .slice Ps Ls.length Cs, Ls⟩, ⟨Ns, .slice Pt Ls.length Ct, Ls⟩] := ⟨_, rfl⟩
                      have HST := Lib.hid hst
                      have HK7 := Lib.hid (show KI w4.heap.size x7 (.slice pl 16 cl) (.slice pw cs.length cw) (zs ++ st) 16 cs by
                        rw [hst]
                        have h := (HKI8.out.keep HW2.out).more HB7.out (HZ6.out.keep hb)
                        rw [HZL.out] at h
                        exact h)
                      clear hb HS6 HT6 HRS6 HRT6 HZ6 hst
                      have cs0 := HS7.out.c0
                      have cs1 := HS7.out.c1
                      have ls := HS7.out.lt
                      have ct0 := HT7.out.c0
                      have ct1 := HT7.out.c1
                      have lt := HT7.out.lt
                      have hs0 := HK7.out.s0
                      have HAL := Lib.hid (show Below x7.heap.size x7 (x7.alloc (.cells #[.slice Ps Ls.length Cs, .slice Pt Ls.length Ct] 22)) from (Below.refl _ _).alloc (Nat.le_refl _) _)
                      have HK7A := Lib.hid (HK7.out.keep HAL.out)
                      go_wp2_with (first
                        | (at_builtin; refine wpList_appG (by first | rfl | (simp [Region.wanted, yielded]; done)) (.tmp 201) (.tmp 206) rfl Tryd.underlying41 infoWds rfl rfl (v := .slice pl 16 cl) (base := w4.heap.size) (n := 16) (m := 2) (xs := ((zs ++ st).map (·.u)).take 16) (news := [.slice Ps Ls.length Cs, .slice Pt Ls.length Ct]) HK7A.out.ls rfl (by exact src_top (by first | rfl | (simp; done))) (by simp [Value.oneCell']) (by unfold maxLen; omega) (by omega) (by simp; omega) ?_; intro lv2 x8 hap; have HK8 := Lib.hid (HK7A.out.pushL (c := 2) (by rw [List.length_append, HZL.out, HST.out]; simp) (by rw [List.map_append, List.drop_left' (by rw [List.length_map, HZL.out]), HST.out]; rfl) hap); have HLX := Lib.hid ((HL7.out.trans (HAL.out.mono HL7.out.size)).trans ((hap.below (B := w4.heap.size) (by simp; omega) (fun g hg => (World.ownsRow.lt HK7A.out.ls g hg).1)).mono hx4)); obtain ⟨pl3, cl3, rfl⟩ := owns_form0 hap.own; clear hap)
                        | (go_at_call 24; refine (HK8.out.apart (by rw [List.length_append, HZL.out, HST.out]; rfl) (by rw [List.length_append, HZL.out, HST.out]; simp)).mono ?_; rintro e x9 ⟨rfl, hb9⟩; have HX9 := Lib.hid hb9; clear hb9)
                        | fail)
                      go_ret
                      exact ⟨rfl, HLX.out.trans (HX9.out.mono hx4)⟩
        have hkz : (k : Int) < 2 := by omega
        -- 226 .. 229
        have ca0 := HK0.out.a.c0
        have ca1 := HK0.out.a.c1
        have cb0 := HK0.out.b.c0
        have cb1 := HK0.out.b.c1
        have la := HK0.out.a.lt
        have lb := HK0.out.b.lt
        go_wp2_with fail
        refine (add_all n1 _ xs n2 _ ys v0 (room_rd HK0.out.ra hm1) HF1.out (room_rd HK0.out.rb hm2) HF2.out).mono ?_
        rintro e v1 ⟨Ns, Us, Ls, ers, rfl, hm, hq, hb⟩
        obtain ⟨Ps, Cs, rfl⟩ := MU.form hm
        have HK1 := Lib.hid (HK0.out.keep hb)
        have HL1 := Lib.hid (HL0.out.trans (hb.mono HL0.out.size))
        have HZ1 := Lib.hid (HZ0.out.add (n := Ns) HL0.out.size hb hm hq.len)
        have Qs := Lib.hid (show KQ8 n1 xs n2 ys 0 Ns Ls from ⟨hq.len, ers, hq⟩)
        clear ca0 ca1 cb0 cb1 la lb
        clear HK0 HL0 HZ0 hm hq hb
        have ca0 := HK1.out.a.c0
        have ca1 := HK1.out.a.c1
        have cb0 := HK1.out.b.c0
        have cb1 := HK1.out.b.c1
        have la := HK1.out.a.lt
        have lb := HK1.out.b.lt
        go_wp2_with fail
        generalize hw : World.alloc v1 _ = v2
        have hb : Below v1.heap.size v1 v2 := by rw [← hw]; exact ((Below.refl _ _).alloc (by first | exact Nat.le_refl _ | (simp; done) | (simp; omega)) _)
        have Bs2 := Lib.hid (show Box2 v2 (v1.heap.size) (.bool Ns) (.slice Ps Ls.length Cs) by rw [← hw]; exact Box2.new _ _ _ _ rfl)
        have HK2 := Lib.hid (HK1.out.keep hb)
        have HL2 := Lib.hid (HL1.out.trans (hb.mono HL1.out.size))
        have HZ2 := Lib.hid (HZ1.out.keep hb)
        clear HK1 HL1 HZ1 hb hw
        have ca0 := HK2.out.a.c0
        have ca1 := HK2.out.a.c1
        have cb0 := HK2.out.b.c0
        have cb1 := HK2.out.b.c1
        have la := HK2.out.a.lt
        have lb := HK2.out.b.lt
        refine (sub_all n1 _ xs n2 _ ys v2 (room_rd HK2.out.ra hm1) HF1.out (room_rd HK2.out.rb hm2) HF2.out).mono ?_
        rintro e v3 ⟨Nd, Ud, Ld, erd, rfl, hm, hq, hb⟩
        obtain ⟨Pd, Cd, rfl⟩ := MU.form hm
        have HK3 := Lib.hid (HK2.out.keep hb)
        have HL3 := Lib.hid (HL2.out.trans (hb.mono HL2.out.size))
        have Bs3 := Lib.hid (Bs2.out.keep hb)
        have HZ3 := Lib.hid (HZ2.out.add (n := Nd) HL2.out.size hb hm hq.len)
        have Qd := Lib.hid (show KQ8 n1 xs n2 ys 1 Nd Ld from ⟨hq.len, erd, hq⟩)
        clear ca0 ca1 cb0 cb1 la lb
        clear HK2 HL2 HZ2 Bs2 hm hq hb
        have ca0 := HK3.out.a.c0
        have ca1 := HK3.out.a.c1
        have cb0 := HK3.out.b.c0
        have cb1 := HK3.out.b.c1
        have la := HK3.out.a.lt
        have lb := HK3.out.b.lt
        go_wp2_with fail
        generalize hw : World.alloc v3 _ = v4
        have hb : Below v3.heap.size v3 v4 := by rw [← hw]; exact ((Below.refl _ _).alloc (by first | exact Nat.le_refl _ | (simp; done) | (simp; omega)) _)
        have Bd4 := Lib.hid (show Box2 v4 (v3.heap.size) (.bool Nd) (.slice Pd Ld.length Cd) by rw [← hw]; exact Box2.new _ _ _ _ rfl)
        have HK4 := Lib.hid (HK3.out.keep hb)
        have HL4 := Lib.hid (HL3.out.trans (hb.mono HL3.out.size))
        have HZ4 := Lib.hid (HZ3.out.keep hb)
        have Bs4 := Lib.hid (Bs3.out.keep hb)
        clear HK3 HL3 HZ3 Bs3 hb hw
        have ca0 := HK4.out.a.c0
        have ca1 := HK4.out.a.c1
        have cb0 := HK4.out.b.c0
        have cb1 := HK4.out.b.c1
        have la := HK4.out.a.lt
        have lb := HK4.out.b.lt
        refine (mul_all n1 _ xs n2 _ ys v4 (room_rd HK4.out.ra hm1) HF1.out (room_rd HK4.out.rb hm2) HF2.out).mono ?_
        rintro e v5 ⟨Np, Up, Lp, erp, rfl, hm, hq, hb⟩
        obtain ⟨Pp, Cp, rfl⟩ := MU.form hm
        have HK5 := Lib.hid (HK4.out.keep hb)
        have HL5 := Lib.hid (HL4.out.trans (hb.mono HL4.out.size))
        have Bs5 := Lib.hid (Bs4.out.keep hb)
        have Bd5 := Lib.hid (Bd4.out.keep hb)
        have HZ5 := Lib.hid (HZ4.out.add (n := Np) HL4.out.size hb hm hq.len)
        have Qp := Lib.hid (show KQ8 n1 xs n2 ys 2 Np Lp from ⟨hq.len, erp, hq⟩)
        clear ca0 ca1 cb0 cb1 la lb
        clear HK4 HL4 HZ4 Bs4 Bd4 hm hq hb
        have ca0 := HK5.out.a.c0
        have ca1 := HK5.out.a.c1
        have cb0 := HK5.out.b.c0
        have cb1 := HK5.out.b.c1
        have la := HK5.out.a.lt
        have lb := HK5.out.b.lt
        go_wp2_with fail
        generalize hw : World.alloc v5 _ = v6
        have hb : Below v5.heap.size v5 v6 := by rw [← hw]; exact ((Below.refl _ _).alloc (by first | exact Nat.le_refl _ | (simp; done) | (simp; omega)) _)
        have Bp6 := Lib.hid (show Box2 v6 (v5.heap.size) (.bool Np) (.slice Pp Lp.length Cp) by rw [← hw]; exact Box2.new _ _ _ _ rfl)
        have HK6 := Lib.hid (HK5.out.keep hb)
        have HL6 := Lib.hid (HL5.out.trans (hb.mono HL5.out.size))
        have HZ6 := Lib.hid (HZ5.out.keep hb)
        have Bs6 := Lib.hid (Bs5.out.keep hb)
        have Bd6 := Lib.hid (Bd5.out.keep hb)
        clear HK5 HL5 HZ5 Bs5 Bd5 hb hw
        have ca0 := HK6.out.a.c0
        have ca1 := HK6.out.a.c1
        have cb0 := HK6.out.b.c0
        have cb1 := HK6.out.b.c1
        have la := HK6.out.a.lt
        have lb := HK6.out.b.lt
        refine (div_all n1 _ xs n2 _ ys v6 (room_rd HK6.out.ra hm1) HF1.out (room_rd HK6.out.rb hm2) HF2.out).mono ?_
        rintro e v7 ⟨M, Nq, Uq, Lq, Nr, Ur, Lr, erq, rfl, hm, hv, hM, hq, hlq, hlr, hb⟩
        obtain ⟨Pq, Cq, rfl⟩ := MU.form hm.mu
        obtain ⟨Pr, Cr, rfl⟩ := MU.form hv
        have HK7 := Lib.hid (HK6.out.keep hb)
        have HL7 := Lib.hid (HL6.out.trans (hb.mono HL6.out.size))
        have Bs7 := Lib.hid (Bs6.out.keep hb)
        have Bd7 := Lib.hid (Bd6.out.keep hb)
        have Bp7 := Lib.hid (Bp6.out.keep hb)
        have HZ7 := Lib.hid (HZ6.out.add2 (n := Nq) (m := Nr) HL6.out.size hb hm hv hM hlq hlr)
        have Qq := Lib.hid (show KQ8 n1 xs n2 ys 3 Nq Lq from ⟨hlq, Nr, Lr, hq⟩)
        have Qr := Lib.hid (show KQ8 n1 xs n2 ys 4 Nr Lr from ⟨hlr, Nq, Lq, hq⟩)
        clear ca0 ca1 cb0 cb1 la lb
        clear HK6 HL6 HZ6 Bs6 Bd6 Bp6 hm hv hM hq hlq hlr hb
        have ca0 := HK7.out.a.c0
        have ca1 := HK7.out.a.c1
        have cb0 := HK7.out.b.c0
        have cb1 := HK7.out.b.c1
        have la := HK7.out.a.lt
        have lb := HK7.out.b.lt
        go_wp2_with fail
        generalize hw : World.alloc (World.alloc v7 _) _ = v8
        have hb : Below v7.heap.size v7 v8 := by rw [← hw]; exact (((Below.refl _ _).alloc (by first | exact Nat.le_refl _ | (simp; done) | (simp; omega)) _).alloc (by first | exact Nat.le_refl _ | (simp; done) | (simp; omega)) _)
        have Bq8 := Lib.hid (show Box2 v8 (v7.heap.size) (.bool Nq) (.slice Pq Lq.length Cq) by rw [← hw]; exact (Box2.new _ _ _ _ rfl).alloc _)
        have Br8 := Lib.hid (show Box2 v8 (v7.heap.size + 1) (.bool Nr) (.slice Pr Lr.length Cr) by rw [← hw]; exact Box2.new _ _ _ _ (by simp))
        have HK8 := Lib.hid (HK7.out.keep hb)
        have HL8 := Lib.hid (HL7.out.trans (hb.mono HL7.out.size))
        have HZ8 := Lib.hid (HZ7.out.keep hb)
        have Bs8 := Lib.hid (Bs7.out.keep hb)
        have Bd8 := Lib.hid (Bd7.out.keep hb)
        have Bp8 := Lib.hid (Bp7.out.keep hb)
        clear HK7 HL7 HZ7 Bs7 Bd7 Bp7 hb hw
        have ca0 := HK8.out.a.c0
        have ca1 := HK8.out.a.c1
        have cb0 := HK8.out.b.c0
        have cb1 := HK8.out.b.c1
        have la := HK8.out.a.lt
        have lb := HK8.out.b.lt
        refine (neg_all n1 _ xs v8 (room_rd HK8.out.ra hm1) HF1.out).mono ?_
        rintro e v9 ⟨Nt, Ut, Lt, ert, rfl, hm, hq, hb⟩
        obtain ⟨Pt, Ct, rfl⟩ := MU.form hm
        have HK9 := Lib.hid (HK8.out.keep hb)
        have HL9 := Lib.hid (HL8.out.trans (hb.mono HL8.out.size))
        have Bs9 := Lib.hid (Bs8.out.keep hb)
        have Bd9 := Lib.hid (Bd8.out.keep hb)
        have Bp9 := Lib.hid (Bp8.out.keep hb)
        have Bq9 := Lib.hid (Bq8.out.keep hb)
        have Br9 := Lib.hid (Br8.out.keep hb)
        have HZ9 := Lib.hid (HZ8.out.add (n := Nt) HL8.out.size hb hm hq.len)
        have Qt := Lib.hid (show KQ8 n1 xs n2 ys 5 Nt Lt from ⟨hq.len, ert, hq⟩)
        clear ca0 ca1 cb0 cb1 la lb
        clear HK8 HL8 HZ8 Bs8 Bd8 Bp8 Bq8 Br8 hm hq hb
        have ca0 := HK9.out.a.c0
        have ca1 := HK9.out.a.c1
        have cb0 := HK9.out.b.c0
        have cb1 := HK9.out.b.c1
        have la := HK9.out.a.lt
        have lb := HK9.out.b.lt
        go_wp2_with fail
        generalize hw : World.alloc v9 _ = v10
        have hb : Below v9.heap.size v9 v10 := by rw [← hw]; exact ((Below.refl _ _).alloc (by first | exact Nat.le_refl _ | (simp; done) | (simp; omega)) _)
        have Bt10 := Lib.hid (show Box2 v10 (v9.heap.size) (.bool Nt) (.slice Pt Lt.length Ct) by rw [← hw]; exact Box2.new _ _ _ _ rfl)
        have HK10 := Lib.hid (HK9.out.keep hb)
        have HL10 := Lib.hid (HL9.out.trans (hb.mono HL9.out.size))
        have HZ10 := Lib.hid (HZ9.out.keep hb)
        have Bs10 := Lib.hid (Bs9.out.keep hb)
        have Bd10 := Lib.hid (Bd9.out.keep hb)
        have Bp10 := Lib.hid (Bp9.out.keep hb)
        have Bq10 := Lib.hid (Bq9.out.keep hb)
        have Br10 := Lib.hid (Br9.out.keep hb)
        clear HK9 HL9 HZ9 Bs9 Bd9 Bp9 Bq9 Br9 hb hw
        have ca0 := HK10.out.a.c0
        have ca1 := HK10.out.a.c1
        have cb0 := HK10.out.b.c0
        have cb1 := HK10.out.b.c1
        have la := HK10.out.a.lt
        have lb := HK10.out.b.lt
        have HOF := Lib.hid (fun (wx : World) (hx : Below v10.heap.size v10 wx) => of_atK hx)
        have HPW := Lib.hid (fun (wx : World) (hx : Below v10.heap.size v10 wx) (n2 : Bool) (u2 : Value) (l2 : List Int) (h2 : Rd wx u2 l2) (s2 : Sgn B18 n2 l2 1) => pow_atK (n1 := n1) (room_rd HK10.out.ra hm1) HF1.out hx h2 s2)
        go_cut [20] (fun a wx => ∃ bw Nw pw Lw cw ew, a = .pointer (some ⟨bw, 0, none⟩) ∧ WB v10 wx bw Nw (.slice pw (List.length Lw) cw) Lw ∧ KQ (goodB n1 xs) (sg n1 (val B18 xs)) Nw Lw ew)
        case first =>
          clear Bs10 Bd10 Bp10 Bq10 Br10 Bt10 HZ10 HL10 HK10 HKI HZS HBL HR1 HR2 HF1 HF2 HK Qs Qd Qp Qq Qr Qt
          go_region_held3 (fun w' => w'.cell? ⟨ba, 0, none⟩ = some (.bool n1) ∧ w'.cell? ⟨ba, 1, none⟩ = some (.slice (some ⟨ga, 0, none⟩) xs.length (xs.length + 6)))
            ((repeat' apply And.intro) <;> (repeat' (first | with_reducible assumption | with_reducible refine alloc_cell ?_ _ | (with_reducible refine cell_set2 ?_ ?_ _ _; · omega) | with_reducible refine drew_cell ?_)))
            (first
             | (go_at_call 20; (with_reducible refine (HOF.out _ (by ((repeat' (first | with_reducible assumption | with_reducible exact Below.refl _ _ | with_reducible refine Below.drew ?_ | with_reducible refine Below.alloc ?_ (by first | omega | (simp; omega) | (simp; done) | fail) _ | with_reducible refine Below.setCell ?_ (by first | omega | (simp; omega) | (simp; done) | fail) _ | fail)); (first | done | fail)))).mono ?_); rintro e wo ⟨no, uo, lo, rfl, hmo, hso, hbo, hxo⟩; obtain ⟨po, co, rfl⟩ := MU.form hmo; have i0 := below_cell hbo ca0; have i1 := below_cell hbo ca1; have zo := hbo.size; have yo := hxo.size; have HMO := Lib.hid hmo; have HSO := Lib.hid hso; have HLO := Lib.hid (show lo.length ≤ 30 from hso.small.2 (small_one false)); (try (have hBox := Box2.keep (B := v10.heap.size) (a := (.bool false)) (b := (.slice none 0 0)) (by ((repeat' (first | with_reducible assumption | (with_reducible exact Hid.out ‹_›) | (with_reducible refine Box2.put0 _ _ ?_) | (with_reducible refine Box2.new _ _ _ _ ?_; (first | with_reducible rfl | (simp; done) | rfl)) | (with_reducible refine Box2.alloc ?_ _) | (with_reducible refine Box2.drew ?_) | (with_reducible refine Box2.set2 ?hn _ _ ?_; case hn => omega) | fail)); (first | done | fail))) hxo; obtain ⟨_, _, _, _, _, _, _, _⟩ := hBox.all)); clear hxo hmo hso)
             | (go_at_call 19; (with_reducible refine (HPW.out _ (by ((repeat' (first | with_reducible assumption | with_reducible exact Below.refl _ _ | with_reducible refine Below.drew ?_ | with_reducible refine Below.alloc ?_ (by first | omega | (simp; omega) | (simp; done) | fail) _ | with_reducible refine Below.setCell ?_ (by first | omega | (simp; omega) | (simp; done) | fail) _ | fail)); (first | done | fail))) no _ lo (Mine.rd (HMO.out.keep (by ((repeat' (first | with_reducible assumption | with_reducible exact Below.refl _ _ | with_reducible refine Below.drew ?_ | with_reducible refine Below.alloc ?_ (by first | omega | (simp; omega) | (simp; done) | fail) _ | with_reducible refine Below.setCell ?_ (by first | omega | (simp; omega) | (simp; done) | fail) _ | fail)); (first | done | fail)))) (Nat.le_trans HLO.out (by omega))) HSO.out).mono ?_); rintro e wp ⟨Nw, uw, Lw, ew, rfl, hmp, hqp, hbp, hxp⟩; obtain ⟨Pw, Cw, rfl⟩ := MU.form hmp; have j0 := below_cell hbp ca0; have j1 := below_cell hbp ca1; have zp := hbp.size; have yp := hxp.size; have HMP := Lib.hid hmp; have HQP := Lib.hid hqp; (try (have hBox := Box2.keep (B := v10.heap.size) (a := (.bool false)) (b := (.slice none 0 0)) (by ((repeat' (first | with_reducible assumption | (with_reducible exact Hid.out ‹_›) | (with_reducible refine Box2.put0 _ _ ?_) | (with_reducible refine Box2.new _ _ _ _ ?_; (first | with_reducible rfl | (simp; done) | rfl)) | (with_reducible refine Box2.alloc ?_ _) | (with_reducible refine Box2.drew ?_) | (with_reducible refine Box2.set2 ?hn _ _ ?_; case hn => omega) | fail)); (first | done | fail))) hxp; obtain ⟨_, _, _, _, _, _, _, _⟩ := hBox.all)); (try (have hBox := Box2.keep (B := wo.heap.size) (a := (.bool false)) (b := (.slice none 0 0)) (by ((repeat' (first | with_reducible assumption | (with_reducible exact Hid.out ‹_›) | (with_reducible refine Box2.put0 _ _ ?_) | (with_reducible refine Box2.new _ _ _ _ ?_; (first | with_reducible rfl | (simp; done) | rfl)) | (with_reducible refine Box2.alloc ?_ _) | (with_reducible refine Box2.drew ?_) | (with_reducible refine Box2.set2 ?hn _ _ ?_; case hn => omega) | fail)); (first | done | fail))) hxp; obtain ⟨_, _, _, _, _, _, _, _⟩ := hBox.all)); clear hxp hmp hqp)
             | fail)
          all_goals (go_wp2_with fail)
          all_goals go_meet
          all_goals first
            | exact ⟨_, Nw, _, Lw, _, ew, rfl, WB.mk1 (V := v10) HMP.out (by first | omega | (simp; done) | (simp; omega)) (by first | omega | (simp; done) | (simp; omega)) hbp (by ((repeat' (first | with_reducible assumption | (with_reducible exact Hid.out ‹_›) | (with_reducible refine Box2.put0 _ _ ?_) | (with_reducible refine Box2.new _ _ _ _ ?_; (first | with_reducible rfl | (simp; done) | rfl)) | (with_reducible refine Box2.alloc ?_ _) | (with_reducible refine Box2.drew ?_) | (with_reducible refine Box2.set2 ?hn _ _ ?_; case hn => omega) | fail)); (first | done | fail))), HQP.out⟩
            | exact ⟨_, Nw, _, Lw, _, ew, rfl, WB.mk3 (V := v10) HMP.out (by first | omega | (simp; done) | (simp; omega)) hbp, HQP.out⟩
        case rest =>
          obtain ⟨bw, Nw, Pw, Lw, Cw, ew, rfl, hWB, hq⟩ := hcut
          obtain ⟨v11, rfl⟩ : ∃ v11 : World, v11 = wc := ⟨_, rfl⟩
          have hb := hWB.low
          have HK11 := Lib.hid (HK10.out.keep hb)
          have HL11 := Lib.hid (HL10.out.trans (hb.mono HL10.out.size))
          have Bs11 := Lib.hid (Bs10.out.keep hb)
          have Bd11 := Lib.hid (Bd10.out.keep hb)
          have Bp11 := Lib.hid (Bp10.out.keep hb)
          have Bq11 := Lib.hid (Bq10.out.keep hb)
          have Br11 := Lib.hid (Br10.out.keep hb)
          have Bt11 := Lib.hid (Bt10.out.keep hb)
          have HZ11 := Lib.hid (HZ10.out.add (n := Nw) HL10.out.size hb hWB.mu hq.len)
          have Qw := Lib.hid (show KQ8 n1 xs n2 ys 6 Nw Lw from ⟨hq.len, ew, hq⟩)
          have Bw11 := Lib.hid hWB.box
          clear ca0 ca1 cb0 cb1 la lb
          clear HK10 HL10 HZ10 Bs10 Bd10 Bp10 Bq10 Br10 Bt10 hWB hq hb HOF HPW
          have ca0 := HK11.out.a.c0
          have ca1 := HK11.out.a.c1
          have cb0 := HK11.out.b.c0
          have cb1 := HK11.out.b.c1
          have la := HK11.out.a.lt
          have lb := HK11.out.b.lt
          go_wp2_with fail
          refine (add_all n1 _ xs false _ [] v11 (room_rd HK11.out.ra hm1) HF1.out (.inl ⟨_, rfl, rfl⟩) (fun i => by simp)).mono ?_
          rintro e v12 ⟨Nv, Uv, Lv, erv, rfl, hm, hq, hb⟩
          obtain ⟨Pv, Cv, rfl⟩ := MU.form hm
          have HK12 := Lib.hid (HK11.out.keep hb)
          have HL12 := Lib.hid (HL11.out.trans (hb.mono HL11.out.size))
          have Bs12 := Lib.hid (Bs11.out.keep hb)
          have Bd12 := Lib.hid (Bd11.out.keep hb)
          have Bp12 := Lib.hid (Bp11.out.keep hb)
          have Bq12 := Lib.hid (Bq11.out.keep hb)
          have Br12 := Lib.hid (Br11.out.keep hb)
          have Bt12 := Lib.hid (Bt11.out.keep hb)
          have Bw12 := Lib.hid (Bw11.out.keep hb)
          have HZ12 := Lib.hid (HZ11.out.add (n := Nv) HL11.out.size hb hm hq.len)
          have Qv := Lib.hid (show KQ8 n1 xs n2 ys 7 Nv Lv from ⟨hq.len, erv, hq⟩)
          clear ca0 ca1 cb0 cb1 la lb
          clear HK11 HL11 HZ11 Bs11 Bd11 Bp11 Bq11 Br11 Bt11 Bw11 hm hq hb
          have ca0 := HK12.out.a.c0
          have ca1 := HK12.out.a.c1
          have cb0 := HK12.out.b.c0
          have cb1 := HK12.out.b.c1
          have la := HK12.out.a.lt
          have lb := HK12.out.b.lt
          have fs0 := Bs12.out.c0
          have fs1 := Bs12.out.c1
          have fsl := Bs12.out.lt
          have fd0 := Bd12.out.c0
          have fd1 := Bd12.out.c1
          have fdl := Bd12.out.lt
          have fp0 := Bp12.out.c0
          have fp1 := Bp12.out.c1
          have fpl := Bp12.out.lt
          have fq0 := Bq12.out.c0
          have fq1 := Bq12.out.c1
          have fql := Bq12.out.lt
          have fr0 := Br12.out.c0
          have fr1 := Br12.out.c1
          have frl := Br12.out.lt
          have ft0 := Bt12.out.c0
          have ft1 := Bt12.out.c1
          have ftl := Bt12.out.lt
          have fw0 := Bw12.out.c0
          have fw1 := Bw12.out.c1
          have fwl := Bw12.out.lt
          go_wp2_with fail
          generalize hw : World.alloc (World.alloc v12 _) _ = v13
          have hb : Below v12.heap.size v12 v13 := by rw [← hw]; exact ((Below.refl _ _).alloc (Nat.le_refl _) _).alloc (by simp) _
          have HLIT := Lib.hid (show ∀ (x : Nat) (u : Value), ([.bool Ns, .slice Ps Ls.length Cs, .bool Nd, .slice Pd Ld.length Cd, .bool Np, .slice Pp Lp.length Cp, .bool Nq, .slice Pq Lq.length Cq, .bool Nr, .slice Pr Lr.length Cr, .bool Nt, .slice Pt Lt.length Ct, .bool Nw, .slice Pw Lw.length Cw, .bool Nv, .slice Pv Lv.length Cv] : List Value)[x]? = some u → v13.cell? ⟨v12.heap.size + 1, x, none⟩ = some u by
            intro x u hu
            rw [← hw]
            have hh := heap_alloc_new (World.alloc v12 (.cells #[.bool Nv, .slice Pv Lv.length Cv] 24)) (.cells #[.bool Ns, .slice Ps Ls.length Cs, .bool Nd, .slice Pd Ld.length Cd, .bool Np, .slice Pp Lp.length Cp, .bool Nq, .slice Pq Lq.length Cq, .bool Nr, .slice Pr Lr.length Cr, .bool Nt, .slice Pt Lt.length Ct, .bool Nw, .slice Pw Lw.length Cw, .bool Nv, .slice Pv Lv.length Cv] 24)
            rw [show (World.alloc v12 (.cells #[.bool Nv, .slice Pv Lv.length Cv] 24)).heap.size = v12.heap.size + 1 by simp] at hh
            rw [cell_of_row _ _ _ _ _ _ hh, List.getElem?_toArray]; exact hu)
          have hgl : v12.heap.size + 1 < v13.heap.size := by rw [← hw]; simp
          have HLJ := Lib.hid (HL12.out.trans (hb.mono HL12.out.size))
          have HZJ := Lib.hid (show RZ v13 v0.heap.size [⟨Ns, .slice Ps Ls.length Cs, Ls⟩, ⟨Nd, .slice Pd Ld.length Cd, Ld⟩, ⟨Np, .slice Pp Lp.length Cp, Lp⟩, ⟨Nq, .slice Pq Lq.length Cq, Lq⟩, ⟨Nr, .slice Pr Lr.length Cr, Lr⟩, ⟨Nt, .slice Pt Lt.length Ct, Lt⟩, ⟨Nw, .slice Pw Lw.length Cw, Lw⟩, ⟨Nv, .slice Pv Lv.length Cv, Lv⟩] from HZ12.out.keep hb)
          obtain ⟨gl, hgl'⟩ : ∃ gl, v12.heap.size + 1 = gl := ⟨_, rfl⟩
          rw [hgl'] at HLIT hgl ⊢
          have hgv : v0.heap.size ≤ gl := by have := HL12.out.size; omega
          have HZS2 := Lib.hid (ZS.more (a0 := ⟨Ns, .slice Ps Ls.length Cs, Ls⟩) (a1 := ⟨Nd, .slice Pd Ld.length Cd, Ld⟩) (a2 := ⟨Np, .slice Pp Lp.length Cp, Lp⟩) (a3 := ⟨Nq, .slice Pq Lq.length Cq, Lq⟩) (a4 := ⟨Nr, .slice Pr Lr.length Cr, Lr⟩) (a5 := ⟨Nt, .slice Pt Lt.length Ct, Lt⟩) (a6 := ⟨Nw, .slice Pw Lw.length Cw, Lw⟩) (a7 := ⟨Nv, .slice Pv Lv.length Cv, Lv⟩) HZS.out hzl Qs.out Qd.out Qp.out Qq.out Qr.out Qt.out Qw.out Qv.out)
          have HKJ := Lib.hid (show KJ w4.heap.size v13 gl [.bool Ns, .slice Ps Ls.length Cs, .bool Nd, .slice Pd Ld.length Cd, .bool Np, .slice Pp Lp.length Cp, .bool Nq, .slice Pq Lq.length Cq, .bool Nr, .slice Pr Lr.length Cr, .bool Nt, .slice Pt Lt.length Ct, .bool Nw, .slice Pw Lw.length Cw, .bool Nv, .slice Pv Lv.length Cv] (zs ++ [⟨Ns, .slice Ps Ls.length Cs, Ls⟩, ⟨Nd, .slice Pd Ld.length Cd, Ld⟩, ⟨Np, .slice Pp Lp.length Cp, Lp⟩, ⟨Nq, .slice Pq Lq.length Cq, Lq⟩, ⟨Nr, .slice Pr Lr.length Cr, Lr⟩, ⟨Nt, .slice Pt Lt.length Ct, Lt⟩, ⟨Nw, .slice Pw Lw.length Cw, Lw⟩, ⟨Nv, .slice Pv Lv.length Cv, Lv⟩]) zs.length cs (.slice pl zs.length cl) (.slice pw cs.length cw) v13 from ⟨HKI.out.more HLJ.out HZJ.out, HLIT.out, hgl, fun e => by have := (World.ownsRow.lt HKI.out.ls _ e).2; omega, fun e => by have := (World.ownsRow.lt HKI.out.was _ e).2; omega, Below.refl _ _⟩)
          have HBV := Lib.hid (HBL.out.trans (HLJ.out.mono HBL.out.size))
          rw [hcl, hzl] at HKJ
          obtain ⟨z8, hz8⟩ : ∃ z8 : List Big1, z8 = [⟨Ns, .slice Ps Ls.length Cs, Ls⟩, ⟨Nd, .slice Pd Ld.length Cd, Ld⟩, ⟨Np, .slice Pp Lp.length Cp, Lp⟩, ⟨Nq, .slice Pq Lq.length Cq, Lq⟩, ⟨Nr, .slice Pr Lr.length Cr, Lr⟩, ⟨Nt, .slice Pt Lt.length Ct, Lt⟩, ⟨Nw, .slice Pw Lw.length Cw, Lw⟩, ⟨Nv, .slice Pv Lv.length Cv, Lv⟩] := ⟨_, rfl⟩
          have HL8 := Lib.hid (show z8.length = 8 by rw [hz8]; rfl)
          have HF8 := Lib.hid (show ∀ x, x < 8 → ([.bool Ns, .slice Ps Ls.length Cs, .bool Nd, .slice Pd Ld.length Cd, .bool Np, .slice Pp Lp.length Cp, .bool Nq, .slice Pq Lq.length Cq, .bool Nr, .slice Pr Lr.length Cr, .bool Nt, .slice Pt Lt.length Ct, .bool Nw, .slice Pw Lw.length Cw, .bool Nv, .slice Pv Lv.length Cv] : List Value)[x * 2]? = some (.bool (z8.getD x bz).n) ∧ ([.bool Ns, .slice Ps Ls.length Cs, .bool Nd, .slice Pd Ld.length Cd, .bool Np, .slice Pp Lp.length Cp, .bool Nq, .slice Pq Lq.length Cq, .bool Nr, .slice Pr Lr.length Cr, .bool Nt, .slice Pt Lt.length Ct, .bool Nw, .slice Pw Lw.length Cw, .bool Nv, .slice Pv Lv.length Cv] : List Value)[x * 2 + 1]? = some (z8.getD x bz).u by
            intro x hx; subst hz8
            match x, hx with
            | 0, _ => exact ⟨rfl, rfl⟩
            | 1, _ => exact ⟨rfl, rfl⟩
            | 2, _ => exact ⟨rfl, rfl⟩
            | 3, _ => exact ⟨rfl, rfl⟩
            | 4, _ => exact ⟨rfl, rfl⟩
            | 5, _ => exact ⟨rfl, rfl⟩
            | 6, _ => exact ⟨rfl, rfl⟩
            | 7, _ => exact ⟨rfl, rfl⟩
            )
          rw [← hz8] at HZS2 HKJ
          have HZL2 := Lib.hid (show (zs ++ z8).length = 8 * k + 8 by rw [List.length_append, hzl, HL8.out])
          obtain ⟨lit, hlit⟩ : ∃ lit : List Value, lit = [.bool Ns, .slice Ps Ls.length Cs, .bool Nd, .slice Pd Ld.length Cd, .bool Np, .slice Pp Lp.length Cp, .bool Nq, .slice Pq Lq.length Cq, .bool Nr, .slice Pr Lr.length Cr, .bool Nt, .slice Pt Lt.length Ct, .bool Nw, .slice Pw Lw.length Cw, .bool Nv, .slice Pv Lv.length Cv] := ⟨_, rfl⟩
          rw [← hlit] at HKJ HF8
          clear hw hb HLIT hz8 hlit HZJ fs0 fs1 fsl fd0 fd1 fdl fp0 fp1 fpl fq0 fq1 fql fr0 fr1 frl ft0 ft1 ftl fw0 fw1 fwl Qs Qd Qp Qq Qr Qt Qw Qv
          clear ca0 ca1 cb0 cb1 la lb
          clear HK12 HL12 HZ12 Bs12 Bd12 Bp12 Bq12 Br12 Bt12 Bw12 
          obtain ⟨V, rfl⟩ : ∃ V : World, V = v13 := ⟨_, rfl⟩
          go_loopw [7, 8, 101] (fun Lv wv jv wr => ∃ (j : Nat) (cs' : List (Bool × Value)), jv = .int .i64 j ∧ j ≤ 8 ∧ cs'.length = 8 * k + j ∧ KJ w4.heap.size V gl lit (zs ++ z8) (8 * k + j) cs' Lv wv wr) (fun _ _ jv _ => 8 - (intOf jv).toNat)
          case atStart => exact ⟨0, cs, by go_num, by omega, by rw [hcl, hzl]; rfl, HKJ.out⟩
          case round =>
            obtain ⟨j, cs', rfl, hj, hcl', hJ⟩ := hrel
            obtain ⟨pl2, cl2, rfl⟩ := owns_form0 hJ.ki.ls
            obtain ⟨pw2, cw2, rfl⟩ := owns_form0 hJ.ki.was
            have HJ := Lib.hid hJ
            have HCL := Lib.hid hcl'
            clear hJ hcl' HKJ
            by_cases hj8 : j < 8
            · have hz2 := HZL2.out
              have hidx : (zs ++ z8).getD (8 * k + j) bz = z8.getD j bz := by rw [app_right (by omega), hzl, Nat.add_sub_cancel_left]
              obtain ⟨z, hz⟩ : ∃ z, z8.getD j bz = z := ⟨_, rfl⟩
              rw [hz] at hidx
              have hmz : MU wr w4.heap.size z.u z.ws := by have := HJ.out.ki.rz.mu (8 * k + j) (by omega); rwa [hidx] at this
              have hlz : z.ws.length ≤ 30 := by have := HJ.out.ki.rz.len (8 * k + j) (by omega); rwa [hidx] at this
              have q0 := HJ.out.lit _ _ (HF8.out j hj8).1
              have q1 := HJ.out.lit _ _ (HF8.out j hj8).2
              rw [hz] at q0 q1
              obtain ⟨Nz, Uz, Lz⟩ := z
              dsimp only at hmz hlz q0 q1
              obtain ⟨Pz, Cz, rfl⟩ := MU.form hmz
              have HID := Lib.hid hidx
              have HLZ := Lib.hid hlz
              have hjz : (j : Int) < 8 := by omega
              have hgl3 := HJ.out.lt
              have hs0 := HJ.out.ki.s0
              have hkm : 8 * k + j < 16 := by omega
              have hcm : cs'.length < 16 := by have := HCL.out; omega
              have hne : some wr.heap.size ≠ (Value.slice pl2 (8 * k + j) cl2).ownBlock := fun e => by have := (World.ownsRow.lt HJ.out.ki.ls _ e.symm).2; omega
              have HNE := Lib.hid hne
              clear hidx hmz hz hlz hne hz2
              go_wp2_with (first
                | (at_builtin; refine wpList_app rfl (.tmp 105) (.tmp 108) rfl Tryd.underlying41 infoWds rfl rfl (v := .slice pl2 (8 * k + j) cl2) (base := w4.heap.size) (n := 8 * k + j) (m := 1) (xs := ((zs ++ z8).map (·.u)).take (8 * k + j)) (news := [.slice Pz Lz.length Cz]) (HJ.out.keep (by ((repeat' (first | with_reducible assumption | with_reducible exact Below.refl _ _ | with_reducible refine Below.drew ?_ | with_reducible refine Below.alloc ?_ (by first | omega | (simp; omega) | (simp; done) | fail) _ | with_reducible refine Below.setCell ?_ (by first | omega | (simp; omega) | (simp; done) | fail) _ | fail)); (first | done | fail)))).ki.ls rfl (by exact src_top (by first | rfl | (simp; done))) (by simp [Value.oneCell']) (by unfold maxLen; omega) (by omega) (by simp; omega) ?_; intro lv2 w3 hap; have J2 := Lib.hid ((HJ.out.keep (by ((repeat' (first | with_reducible assumption | with_reducible exact Below.refl _ _ | with_reducible refine Below.drew ?_ | with_reducible refine Below.alloc ?_ (by first | omega | (simp; omega) | (simp; done) | fail) _ | with_reducible refine Below.setCell ?_ (by first | omega | (simp; omega) | (simp; done) | fail) _ | fail)); (first | done | fail)))).pushL (by have := HZL2.out; omega) (by rw [HID.out]) hap); have b0 := (World.cell?_of_block (a := ⟨wr.heap.size, 0, none⟩) (hap.grown.block wr.heap.size (by simp; omega) HNE.out)).trans (alloc_cell (v := .bool Nz) (by simp) _); have b1 := (World.cell?_of_block (a := ⟨wr.heap.size, 1, none⟩) (hap.grown.block wr.heap.size (by simp; omega) HNE.out)).trans (alloc_cell (v := .slice Pz Lz.length Cz) (by simp) _); have HR3 := Lib.hid (show Rd w3 (.slice Pz Lz.length Cz) Lz from by have := J2.out.ki.rz.mu (8 * k + j) (by have := HZL2.out; omega); rw [HID.out] at this; exact Mine.rd this (Nat.le_trans HLZ.out (by omega))); obtain ⟨pl3, cl3, rfl⟩ := owns_form0 hap.own; clear hap)
                | (go_at_call 21; (with_reducible refine (copy_any Nz _ Lz _ HR3.out).mono ?_); rintro e w5 ⟨Uc, rfl, hmc, hbc⟩; obtain ⟨Pc, Cc, rfl⟩ := MU.form hmc; have J3 := Lib.hid (J2.out.keep hbc); have hz5 := hbc.size; have HMC := Lib.hid hmc; clear hmc hbc)
                | (at_builtin; refine wpList_appS rfl (.tmp 110) (.tmp 113) rfl Tryd.underlying42 infoBig rfl (by decide) rfl (v := .slice pw2 cs'.length cw2) (base := w4.heap.size) (n := cs'.length) (m := 1) (xs := flatB cs') (news := [.bool Nz, .slice Pc Lz.length Cc]) (J3.out.keep (by ((repeat' (first | with_reducible assumption | with_reducible exact Below.refl _ _ | with_reducible refine Below.drew ?_ | with_reducible refine Below.alloc ?_ (by first | omega | (simp; omega) | (simp; done) | fail) _ | with_reducible refine Below.setCell ?_ (by first | omega | (simp; omega) | (simp; done) | fail) _ | fail)); (first | done | fail)))).ki.was rfl (by exact srcS_top (by first | rfl | (simp; done)) rfl) (by simp [Value.oneCell']) (by unfold maxLen; omega) (by omega) (by have := J3.out.ki.s0; simp; omega) ?_; intro wv2 w7 hap2; have J4 := Lib.hid ((J3.out.keep (by ((repeat' (first | with_reducible assumption | with_reducible exact Below.refl _ _ | with_reducible refine Below.drew ?_ | with_reducible refine Below.alloc ?_ (by first | omega | (simp; omega) | (simp; done) | fail) _ | with_reducible refine Below.setCell ?_ (by first | omega | (simp; omega) | (simp; done) | fail) _ | fail)); (first | done | fail)))).pushC (by have := HZL2.out; have := HCL.out; omega) (by rw [HCL.out, HID.out]) (by rw [HCL.out, HID.out]) J2.out.ki (HMC.out.keep (by ((repeat' (first | with_reducible assumption | with_reducible exact Below.refl _ _ | with_reducible refine Below.drew ?_ | with_reducible refine Below.alloc ?_ (by first | omega | (simp; omega) | (simp; done) | fail) _ | with_reducible refine Below.setCell ?_ (by first | omega | (simp; omega) | (simp; done) | fail) _ | fail)); (first | done | fail)))) hap2); clear hap2)
                | fail)
              go_roundw
              case rel => exact ⟨j + 1, cs' ++ [(Nz, .slice Pc Lz.length Cc)], by go_num, by omega, by rw [List.length_append, List.length_singleton, HCL.out]; omega, J4.out⟩
              case measure => simp [intOf]; omega
            · obtain rfl : j = 8 := by omega
              have HB9 := Lib.hid (HBV.out.trans HJ.out.low)
              have HKI9 := Lib.hid (show KI w4.heap.size wr (.slice pl2 (8 * k + 8) cl2) (.slice pw2 cs'.length cw2) (zs ++ z8) (zs ++ z8).length cs' by have := HJ.out.ki; rw [HZL2.out]; exact this)
              have hjz : ¬ ((8 : Int) < 8) := by omega
              go_wp2_with fail
              go_roundw
              case rel => exact ⟨k + 1, zs ++ z8, cs', by go_num, by omega, by rw [HZL2.out]; omega, by rw [HCL.out, HZL2.out], HKI9.out, HZS2.out, HB9.out⟩
              case measure => simp [intOf]; omega
end Go.Proofs.YticebchmafipiaaDoor
