/- Layer 15: plain values in boxes; Good, isWhole, isNumber, toBig. Layer 15: a bool or an int as a number: the program's and the document's. Layer 15: NaN is not equal to itself: the chapter's example. -/
import Derived.Test.YtpebnofjcodikaaGreatDoorPGWa
import Derived.Test.YtpebnofjcodikaaGreatDoorPGWd
import Derived.Test.YtpebnofjcodikaaGreatDoorRows
import Derived.Lib.Hide
import Derived.WalkKit
import Derived.BigRegion
import Derived.Deep.DeepCutAuto
import Derived.Deep.RegionHeld3
import Derived.RegionTactic
import Derived.WalkSpells
import Derived.WalkLawsBesides
import Derived.Test.YtpebnofjcodikaaGreatDoorPGRlW
import Derived.Test.YtpebnofjcodikaaGreatDoorPGWk
import Derived.Test.YtpebnofjcodikaaGreatDoorPGWf
import Derived.Test.YtpebnofjcodikaaGreatDoorPGRlG
import Derived.Test.YtpebnofjcodikaaGreatDoorShelfR
import Derived.OwnWalk
namespace Go.Proofs.YtpebnofjcodikaaGreatDoor
section
open Go Go.ChangeShapes Go.WideShapes Go.ChangeAt Go.RowKit
set_option linter.unusedVariables false
set_option linter.unusedSimpArgs false
/-- A box of seven cells: a plain value. -/
structure Bx7 (w : World) (B : Nat) (a0 a1 a2 a3 a4 a5 a6 : Value) : Prop where
  c0 : w.cell? ⟨B, 0, none⟩ = some a0
  c1 : w.cell? ⟨B, 1, none⟩ = some a1
  c2 : w.cell? ⟨B, 2, none⟩ = some a2
  c3 : w.cell? ⟨B, 3, none⟩ = some a3
  c4 : w.cell? ⟨B, 4, none⟩ = some a4
  c5 : w.cell? ⟨B, 5, none⟩ = some a5
  c6 : w.cell? ⟨B, 6, none⟩ = some a6
theorem Bx7.keep {w w' : World} {B : Nat} {a0 a1 a2 a3 a4 a5 a6 : Value} (h : Bx7 w B a0 a1 a2 a3 a4 a5 a6) (hb : Below w.heap.size w w') : Bx7 w' B a0 a1 a2 a3 a4 a5 a6 :=
  ⟨below_cell hb h.c0, below_cell hb h.c1, below_cell hb h.c2, below_cell hb h.c3, below_cell hb h.c4, below_cell hb h.c5, below_cell hb h.c6⟩
theorem Bx7.new (X : World) (a0 a1 a2 a3 a4 a5 a6 : Value) (T : TypeId) {B : Nat} (e : B = X.heap.size) : Bx7 (X.alloc (.cells #[a0, a1, a2, a3, a4, a5, a6] T)) B a0 a1 a2 a3 a4 a5 a6 := by
  subst e; exact ⟨by simp, by simp, by simp, by simp, by simp, by simp, by simp⟩
/-- Has a value what its kind hasn't? -/
def badP (k : Int) (y n : Bool) (l : Nat) (b : Nat) (s : ByteArray) : Bool :=
  (((k != 1) && y || (k != 3) && ((b : Int) != 0)) || (k != 4) && !s.toList.isEmpty) || (k != 2) && (n || decide (0 < l))
/-- Is a plain value in form? -/
def goodP (k : Int) (y n : Bool) (ws : List Int) (b : Nat) (s : ByteArray) (m : Nat) : Bool :=
  decide (m = 0) && !badP k y n ws.length b s && (if k = 0 ∨ k = 1 ∨ k = 3 then true else if k = 2 then goodB n ws else if k = 4 then decide (s.size ≤ 20000) else false)
set_option maxRecDepth 100000 in
set_option maxHeartbeats 8000000 in
theorem good15_any (k : Int) (y n : Bool) (u : Value) (ws : List Int) (b : Nat) (s : ByteArray) (ip : Option Addr) (m ic : Nat) (w : World) (hb : b < 18446744073709551616) (hr : Rd w u ws) (hf : Fit ws) (hm : (m : Int) ≤ 9223372036854775807) (hs : (s.size : Int) ≤ 9223372036854775807) :
    Calls Tryz.prog 19 #[.agg #[.int .i64 k, .bool y, .bool n, u, .int .u64 (b : Int), .string s, .slice ip m ic]] w fun e w' => e = .returned (.bool (goodP k y n ws b s m)) ∧ Below w.heap.size w w' := by
  obtain ⟨p, c, rfl, hc, hwm, hp⟩ := rd_form hr
  have HB1 := Lib.hid (show Below w.heap.size w (w.alloc (.cells #[.int .i64 k, .bool y, .bool n, .slice p ws.length c, .int .u64 (b : Int), .string s, .slice ip m ic] 28)) from (Below.refl _ _).alloc (Nat.le_refl _) _)
  have HX1 := Lib.hid (Bx7.new w (.int .i64 k) (.bool y) (.bool n) (.slice p ws.length c) (.int .u64 (b : Int)) (.string s) (.slice ip m ic) 28 rfl)
  have HR1 := Lib.hid (hr.keep HB1.out)
  have HG := Lib.hid (good_any n _ ws _ HR1.out hf)
  have hgp : goodP k y n ws b s m = (decide (m = 0) && !badP k y n ws.length b s && (if k = 0 ∨ k = 1 ∨ k = 3 then true else if k = 2 then goodB n ws else if k = 4 then decide (s.size ≤ 20000) else false)) := rfl
  have HV := Lib.hid hgp
  obtain ⟨W1, hW1⟩ : ∃ x, w.alloc (.cells #[.int .i64 k, .bool y, .bool n, .slice p ws.length c, .int .u64 (b : Int), .string s, .slice ip m ic] 28) = x := ⟨_, rfl⟩
  rw [hW1] at HB1 HX1 HR1 HG
  clear hgp hr hf hp
  go_enter Tryz.func19, Tryz.ntmps19
  go_upto_region 1 with fail
  (try rw [hW1])
  clear hW1
  have c0 := HX1.out.c0
  have c1 := HX1.out.c1
  have c2 := HX1.out.c2
  have c3 := HX1.out.c3
  have c4 := HX1.out.c4
  have c5 := HX1.out.c5
  have c6 := HX1.out.c6
  by_cases hm0 : m = 0
  · subst hm0
    go_upto_region 4 with fail
    obtain ⟨g, hg⟩ : ∃ g, badP k y n ws.length b s = g := ⟨_, rfl⟩
    rw [hg] at HV
    unfold badP at hg
    obtain ⟨q1, h1⟩ : ∃ q, (k != 1) = q := ⟨_, rfl⟩
    obtain ⟨q3, h3⟩ : ∃ q, (k != 3) = q := ⟨_, rfl⟩
    obtain ⟨q4, h4⟩ : ∃ q, (k != 4) = q := ⟨_, rfl⟩
    obtain ⟨q2, h2⟩ : ∃ q, (k != 2) = q := ⟨_, rfl⟩
    obtain ⟨qb, hqb⟩ : ∃ q, ((b : Int) != 0) = q := ⟨_, rfl⟩
    obtain ⟨qs, hqs⟩ : ∃ q, s.toList.isEmpty = q := ⟨_, rfl⟩
    obtain ⟨ql, hql⟩ : ∃ q, decide (0 < ws.length) = q := ⟨_, rfl⟩
    rw [h1, h3, h4, h2, hqb, hqs, hql] at hg
    have HGb := Lib.hid hg
    clear hg
    go_cut [49] from 10 to 48 (fun t wx => t = .bool g ∧ W1 = wx)
    case first =>
      have w1 : (q1 = true ∧ y = true) ∨ q1 = false ∨ (q1 = true ∧ y = false) := by cases q1 <;> cases y <;> simp
      have w3 : (q3 = true ∧ qb = true) ∨ q3 = false ∨ (q3 = true ∧ qb = false) := by cases q3 <;> cases qb <;> simp
      have w4 : (q4 = true ∧ qs = false) ∨ q4 = false ∨ (q4 = true ∧ qs = true) := by cases q4 <;> cases qs <;> simp
      have w2 : (q2 = true ∧ n = true) ∨ q2 = false ∨ (q2 = true ∧ n = false) := by cases q2 <;> cases n <;> simp
      rcases w1 with ⟨rfl, rfl⟩ | rfl | ⟨rfl, rfl⟩
      · go_wp2_with fail
        go_meet
        exact ⟨by rw [← HGb.out]; rfl, rfl⟩
      all_goals
        rcases w3 with ⟨rfl, rfl⟩ | rfl | ⟨rfl, rfl⟩
        · go_wp2_with fail
          go_meet
          exact ⟨by rw [← HGb.out]; rfl, rfl⟩
        all_goals
          rcases w4 with ⟨rfl, rfl⟩ | rfl | ⟨rfl, rfl⟩
          · go_wp2_with fail
            go_meet
            exact ⟨by rw [← HGb.out]; rfl, rfl⟩
          all_goals
            rcases w2 with ⟨rfl, rfl⟩ | rfl | ⟨rfl, rfl⟩
            all_goals
              go_wp2_with fail
              go_meet
              exact ⟨by rw [← HGb.out]; rfl, rfl⟩
    case rest =>
      obtain ⟨rfl, rfl⟩ := hcut
      clear h1 h2 h3 h4 hqb hqs hql HGb
      cases g
      · simp only [decide_true, Bool.true_and, Bool.not_false] at HV
        by_cases k0 : k = 0
        · subst k0
          go_wp2_with fail
          go_ret
          exact ⟨by rw [HV.out]; rfl, HB1.out⟩
        · by_cases k1 : k = 1
          · subst k1
            go_wp2_with fail
            go_ret
            exact ⟨by rw [HV.out]; rfl, HB1.out⟩
          · by_cases k3 : k = 3
            · subst k3
              go_wp2_with fail
              go_ret
              exact ⟨by rw [HV.out]; rfl, HB1.out⟩
            · rw [if_neg (by omega)] at HV
              by_cases k2 : k = 2
              · subst k2
                rw [if_pos rfl] at HV
                go_wp2_with (first
                  | (go_at_call 45; refine HG.out.mono ?_; rintro e w2 ⟨rfl, hb⟩; have HB2 := Lib.hid (HB1.out.trans (hb.mono HB1.out.size)); clear hb HG)
                  | fail)
                go_ret
                exact ⟨by rw [HV.out]; rfl, HB2.out⟩
              · rw [if_neg k2] at HV
                by_cases k4 : k = 4
                · subst k4
                  rw [if_pos rfl] at HV
                  go_wp2_with fail
                  go_ret
                  exact ⟨by rw [HV.out]; simp; omega, HB1.out⟩
                · rw [if_neg k4] at HV
                  go_wp2_with fail
                  go_ret
                  exact ⟨by rw [HV.out]; rfl, HB1.out⟩
      · simp only [Bool.not_true, Bool.and_false, Bool.false_and] at HV
        go_wp2_with fail
        go_ret
        exact ⟨by rw [HV.out]; rfl, HB1.out⟩
  · have hm1 : (0 : Int) < (m : Int) := by omega
    go_wp2_with fail
    go_ret
    exact ⟨by rw [HV.out, decide_eq_false hm0]; rfl, HB1.out⟩
/-- A bool or an int; a number. -/
def wholeP (k : Int) : Bool := (k == 1) || (k == 2)
def numP (k : Int) : Bool := (k == 3) || ((k == 1) || (k == 2))
section
variable (k : Int) (y n : Bool) (u : Value) (b : Nat) (s : ByteArray) (it : Value) (w : World)
set_option maxRecDepth 100000 in
theorem isWhole_any : Calls Tryz.prog 20 #[.agg #[.int .i64 k, .bool y, .bool n, u, .int .u64 (b : Int), .string s, it]] w fun e w' => e = .returned (.bool (wholeP k)) ∧ Below w.heap.size w w' := by
  have HB1 := Lib.hid (show Below w.heap.size w (w.alloc (.cells #[.int .i64 k, .bool y, .bool n, u, .int .u64 (b : Int), .string s, it] 28)) from (Below.refl _ _).alloc (Nat.le_refl _) _)
  have HW := Lib.hid (show wholeP k = ((k == 1) || (k == 2)) from rfl)
  obtain ⟨q1, h1⟩ : ∃ q, (k == 1) = q := ⟨_, rfl⟩
  rw [h1] at HW
  cases q1
  all_goals
    go_enter Tryz.func20, Tryz.ntmps20
    go_wp2_with fail
    go_ret
    exact ⟨by rw [HW.out]; rfl, HB1.out⟩
set_option maxRecDepth 100000 in
theorem isNumber_any : Calls Tryz.prog 23 #[.agg #[.int .i64 k, .bool y, .bool n, u, .int .u64 (b : Int), .string s, it]] w fun e w' => e = .returned (.bool (numP k)) ∧ Below w.heap.size w w' := by
  have HB1 := Lib.hid (show Below w.heap.size w (w.alloc (.cells #[.int .i64 k, .bool y, .bool n, u, .int .u64 (b : Int), .string s, it] 28)) from (Below.refl _ _).alloc (Nat.le_refl _) _)
  have HW := Lib.hid (show numP k = ((k == 3) || wholeP k) from rfl)
  obtain ⟨q1, h1⟩ : ∃ q, (k == 3) = q := ⟨_, rfl⟩
  obtain ⟨q2, h2⟩ : ∃ q, wholeP k = q := ⟨_, rfl⟩
  have HI := Lib.hid (fun W => isWhole_any k y n u b s it W)
  rw [h1, h2] at HW
  rw [h2] at HI
  clear h2
  cases q1
  all_goals
    go_enter Tryz.func23, Tryz.ntmps23
    go_wp2_with (first
      | (go_at_call 20; refine (HI.out _).mono ?_; rintro e w2 ⟨rfl, hb⟩; have HB2 := Lib.hid (HB1.out.trans (hb.mono HB1.out.size)); clear hb HI)
      | fail)
    go_ret
    exact ⟨by rw [HW.out]; rfl, by first | exact HB2.out | exact HB1.out⟩
end
end
section
open Go Go.ChangeShapes Go.WideShapes Go.ChangeAt Go.RowKit
set_option linter.unusedVariables false
set_option linter.unusedSimpArgs false
/-- A bool or an int as an integer. -/
def zP (k : Int) (y n : Bool) (ws : List Int) : Int := if k = 2 then sg n (val B18 ws) else if y = true then 1 else 0
/-- A number in limbs. -/
def TBPost (W : World) (z : Int) (e : Ending) (w' : World) : Prop :=
  ∃ n p c ws, e = .returned (.agg #[.bool n, .slice p (List.length ws) c]) ∧ Rd w' (.slice p ws.length c) ws ∧ Sgn B18 n ws z ∧ ws.length ≤ 30 ∧ Below W.heap.size W w'
set_option maxRecDepth 100000 in
set_option maxHeartbeats 4000000 in
theorem toBig_any (k : Int) (y n : Bool) (u : Value) (ws : List Int) (b : Nat) (s : ByteArray) (it : Value) (w : World) (hr : Rd w u ws) (hf : Fit ws) (hg : k = 2 → goodB n ws = true) :
    Calls Tryz.prog 22 #[.agg #[.int .i64 k, .bool y, .bool n, u, .int .u64 (b : Int), .string s, it]] w (TBPost w (zP k y n ws)) := by
  obtain ⟨p, c, rfl, hc, hwm, hp⟩ := rd_form hr
  have HZ := Lib.hid (show zP k y n ws = if k = 2 then sg n (val B18 ws) else if y = true then 1 else 0 from rfl)
  obtain ⟨z, hz⟩ : ∃ z, zP k y n ws = z := ⟨_, rfl⟩
  rw [hz] at HZ ⊢
  obtain ⟨W1, hW1⟩ : ∃ x, (w.alloc (.cells #[.int .i64 k, .bool y, .bool n, .slice p ws.length c, .int .u64 (b : Int), .string s, it] 28)).alloc (.cells #[.bool false, .slice none 0 0] 24) = x := ⟨_, rfl⟩
  have HB1 := Lib.hid (show Below w.heap.size w W1 by rw [← hW1]; exact ((Below.refl _ _).alloc (Nat.le_refl _) _).alloc (by simp) _)
  have HX1 := Lib.hid (show Bx7 W1 w.heap.size (.int .i64 k) (.bool y) (.bool n) (.slice p ws.length c) (.int .u64 (b : Int)) (.string s) it by rw [← hW1]; exact (Bx7.new w _ _ _ _ _ _ _ _ rfl).keep ((Below.refl _ _).alloc (Nat.le_refl _) _))
  have HR1 := Lib.hid (show Box2 W1 (w.heap.size + 1) (.bool false) (.slice none 0 0) by rw [← hW1]; exact Box2.new _ _ _ _ (by simp))
  have HRd := Lib.hid (hr.keep HB1.out)
  have c0 := HX1.out.c0
  have c1 := HX1.out.c1
  have c2 := HX1.out.c2
  have c3 := HX1.out.c3
  have d0 := HR1.out.c0
  have d1 := HR1.out.c1
  have f0 := HR1.out.f0
  have f1 := HR1.out.f1
  clear hr hp hz
  by_cases k2 : k = 2
  · obtain ⟨hS, hL⟩ := goodB_sgn (hg k2) hf
    have HS := Lib.hid hS
    have HL := Lib.hid hL
    rw [if_pos k2] at HZ
    subst k2
    clear hS hL hg hf
    go_enter Tryz.func22, Tryz.ntmps22
    go_wp2_with fail
    have z2 := two_setW (x0 := .bool n) (x1 := .slice p ws.length c) HR1.out.c0 HR1.out.c1
    refine bodyPost_ret (v := .agg #[.bool n, .slice p ws.length c]) (by simp [results, Tryz.results22, go_sem, hW1, z2.1, z2.2]) rfl ⟨n, p, c, ws, rfl, (by (try rw [hW1]); exact HRd.out.putN HR1.out _ _), by rw [HZ.out]; exact HS.out, HL.out, ?_⟩
    (try rw [hW1])
    exact (HB1.out.setCell (by simp) _).setCell (by simp) _
  · rw [if_neg k2] at HZ
    have hk2 : (k == 2) = false := by simpa using k2
    clear hg hf k2
    cases y
    · simp only [Bool.false_eq_true, if_false] at HZ
      go_enter Tryz.func22, Tryz.ntmps22
      go_wp2_with fail
      have z2 := two_setW (x0 := .bool false) (x1 := .slice none 0 0) HR1.out.c0 HR1.out.c1
      refine bodyPost_ret (v := .agg #[.bool false, .slice none 0 0]) (by simp [results, Tryz.results22, go_sem, hW1, z2.1, z2.2]) rfl ⟨false, none, 0, [], rfl, .inl ⟨none, rfl, rfl⟩, by rw [HZ.out]; exact Sgn.zero (by decide), by simp, ?_⟩
      (try rw [hW1])
      exact (HB1.out.setCell (by simp) _).setCell (by simp) _
    · simp only [if_true] at HZ
      go_enter Tryz.func22, Tryz.ntmps22
      go_wp2_with fail
      (try rw [hW1])
      refine (wof_at (n := 1) ⟨by decide, by decide⟩ (Below.refl W1.heap.size W1)).mono ?_
      rintro e w2 ⟨n2, p2, cq, ws2, rfl, hR2, hS2, hB2, _⟩
      have HX2 := Lib.hid (HR1.out.keep hB2)
      have HB2 := Lib.hid (HB1.out.trans (hB2.mono HB1.out.size))
      have HR2 := Lib.hid hR2
      have HS2 := Lib.hid hS2
      have HL2 := Lib.hid (HS2.out.small.2 (I64.small ⟨by decide, by decide⟩))
      clear hR2 hS2 hB2 d0 d1 f0 f1 c0 c1 c2 c3 hW1
      have d0 := HX2.out.c0
      have d1 := HX2.out.c1
      have f0 := HX2.out.f0
      have f1 := HX2.out.f1
      go_wp2_with fail
      have z2 := two_setW (x0 := .bool n2) (x1 := .slice p2 ws2.length cq) HX2.out.c0 HX2.out.c1
      refine bodyPost_ret (v := .agg #[.bool n2, .slice p2 ws2.length cq]) (by simp [results, Tryz.results22, go_sem, z2.1, z2.2]) rfl ⟨n2, p2, cq, ws2, rfl, HR2.out.putN HX2.out _ _, by rw [HZ.out]; exact HS2.out, HL2.out, ?_⟩
      exact (HB2.out.setCell (by simp) _).setCell (by simp) _
section
variable (k : Int) (y n : Bool) (u : Value) (b : Nat) (s : ByteArray) (it : Value) (w : World)
end
end
section
open Go Go.ChangeShapes Go.WideShapes Go.ChangeAt Go.RowKit
set_option linter.unusedVariables false
set_option linter.unusedSimpArgs false
theorem good_k2 {k : Int} {y n : Bool} {ws : List Int} {b : Nat} {s : ByteArray} {m : Nat} (h : goodP k y n ws b s m = true) : k = 2 → goodB n ws = true := by
  intro h2
  subst h2
  unfold goodP at h
  simp at h
  exact h.2
theorem drewM {B : Nat} {w w' : World} (h : Below B w w') : Below B w w'.drew := ⟨h.os, h.tape, h.output, h.size, h.block⟩
theorem rd_nil (w : World) : Rd w (.slice none 0 0) [] := .inl ⟨none, rfl, rfl⟩
theorem fit_nil : Fit [] := fun i => by simp
theorem good_exn : goodP 3 false false [] fNaN ⟨#[]⟩ 0 = true := by decide +kernel
theorem num_exn : numP 3 = true := by decide
theorem cmp_exn : cmV fNaN fNaN = 0 ∧ cmB fNaN fNaN = false := by decide +kernel
set_option maxRecDepth 100000 in
theorem compare_nan (w : World) : Calls Tryz.prog 43 #[.agg #[.int .i64 3, .bool false, .bool false, .slice none 0 0, .int .u64 (fNaN : Nat), .string ⟨#[]⟩, .slice none 0 0], .agg #[.int .i64 3, .bool false, .bool false, .slice none 0 0, .int .u64 (fNaN : Nat), .string ⟨#[]⟩, .slice none 0 0]] w fun e w' => e = .returned (.tuple #[.int .i64 0, .bool false]) ∧ Below w.heap.size w w' := by
  obtain ⟨W1, hW1⟩ : ∃ x, (w.alloc (.cells #[.int .i64 3, .bool false, .bool false, .slice none 0 0, .int .u64 (fNaN : Nat), .string ⟨#[]⟩, .slice none 0 0] 28)).alloc (.cells #[.int .i64 3, .bool false, .bool false, .slice none 0 0, .int .u64 (fNaN : Nat), .string ⟨#[]⟩, .slice none 0 0] 28) = x := ⟨_, rfl⟩
  have HB1 := Lib.hid (show Below w.heap.size w W1 by rw [← hW1]; exact ((Below.refl _ _).alloc (Nat.le_refl _) _).alloc (by simp) _)
  have HXA := Lib.hid (show Bx7 W1 (w.heap.size) (.int .i64 3) (.bool false) (.bool false) (.slice none 0 0) (.int .u64 (fNaN : Nat)) (.string ⟨#[]⟩) (.slice none 0 0) by rw [← hW1]; exact (Bx7.new w _ _ _ _ _ _ _ _ rfl).keep ((Below.refl _ _).alloc (Nat.le_refl _) _))
  have HXB := Lib.hid (show Bx7 W1 (w.heap.size + 1) (.int .i64 3) (.bool false) (.bool false) (.slice none 0 0) (.int .u64 (fNaN : Nat)) (.string ⟨#[]⟩) (.slice none 0 0) by rw [← hW1]; exact Bx7.new _ _ _ _ _ _ _ _ _ (by simp))
  have HC := Lib.hid (fun W => cmp_any fNaN fNaN W)
  rw [cmp_exn.1, cmp_exn.2] at HC
  have a0 := HXA.out.c0
  have a1 := HXA.out.c1
  have a2 := HXA.out.c2
  have a3 := HXA.out.c3
  have a4 := HXA.out.c4
  have a5 := HXA.out.c5
  have a6 := HXA.out.c6
  have d0 := HXB.out.c0
  have d1 := HXB.out.c1
  have d2 := HXB.out.c2
  have d3 := HXB.out.c3
  have d4 := HXB.out.c4
  have d5 := HXB.out.c5
  have d6 := HXB.out.c6
  go_enter Tryz.func43, Tryz.ntmps43
  go_wp2_with (first
    | (go_at_call 80; (with_reducible refine (HC.out _).mono ?_); rintro e w9 ⟨rfl, rfl⟩)
    | fail)
  go_ret2
  exact ⟨rfl, HB1.out⟩
set_option maxRecDepth 100000 in
set_option maxHeartbeats 4000000 in
theorem equal_known0 (w : World) : Calls Tryz.prog 17 #[.agg #[.int .i64 3, .bool false, .bool false, .slice none 0 0, .int .u64 (fNaN : Nat), .string ⟨#[]⟩, .slice none 0 0], .agg #[.int .i64 3, .bool false, .bool false, .slice none 0 0, .int .u64 (fNaN : Nat), .string ⟨#[]⟩, .slice none 0 0]] w fun e w' => e = .returned (.bool false) ∧ Below w.heap.size w w' := by
  obtain ⟨W1, hW1⟩ : ∃ x, (w.alloc (.cells #[.int .i64 3, .bool false, .bool false, .slice none 0 0, .int .u64 (fNaN : Nat), .string ⟨#[]⟩, .slice none 0 0] 28)).alloc (.cells #[.int .i64 3, .bool false, .bool false, .slice none 0 0, .int .u64 (fNaN : Nat), .string ⟨#[]⟩, .slice none 0 0] 28) = x := ⟨_, rfl⟩
  have HB1 := Lib.hid (show Below w.heap.size w W1 by rw [← hW1]; exact ((Below.refl _ _).alloc (Nat.le_refl _) _).alloc (by simp) _)
  have HXA := Lib.hid (show Bx7 W1 (w.heap.size) (.int .i64 3) (.bool false) (.bool false) (.slice none 0 0) (.int .u64 (fNaN : Nat)) (.string ⟨#[]⟩) (.slice none 0 0) by rw [← hW1]; exact (Bx7.new w _ _ _ _ _ _ _ _ rfl).keep ((Below.refl _ _).alloc (Nat.le_refl _) _))
  have HXB := Lib.hid (show Bx7 W1 (w.heap.size + 1) (.int .i64 3) (.bool false) (.bool false) (.slice none 0 0) (.int .u64 (fNaN : Nat)) (.string ⟨#[]⟩) (.slice none 0 0) by rw [← hW1]; exact Bx7.new _ _ _ _ _ _ _ _ _ (by simp))
  have HG := Lib.hid (fun (W : World) (hx : Below W1.heap.size W1 W) => good15_any 3 false false (.slice none 0 0) [] fNaN ⟨#[]⟩ none 0 0 W (by decide) (rd_nil W) fit_nil (by decide) (by decide))
  have HN := Lib.hid (fun (W : World) => isNumber_any 3 false false (.slice none 0 0) fNaN ⟨#[]⟩ (.slice none 0 0) W)
  rw [good_exn] at HG
  rw [num_exn] at HN
  have HC := Lib.hid (fun (W : World) => compare_nan W)
  have hb0 := Below.refl W1.heap.size W1
  have a0 := HXA.out.c0
  have a1 := HXA.out.c1
  have a2 := HXA.out.c2
  have a3 := HXA.out.c3
  have a4 := HXA.out.c4
  have a5 := HXA.out.c5
  have a6 := HXA.out.c6
  have d0 := HXB.out.c0
  have d1 := HXB.out.c1
  have d2 := HXB.out.c2
  have d3 := HXB.out.c3
  have d4 := HXB.out.c4
  have d5 := HXB.out.c5
  have d6 := HXB.out.c6
  go_enter Tryz.func17, Tryz.ntmps17
  go_wp2_with (first
    | (go_at_call 19; (with_reducible refine (HG.out _ hb0).mono ?_); rintro e v1 ⟨rfl, hvv⟩; have hv1 : Below W1.heap.size W1 v1 := hb0.trans (hvv.mono hb0.size); have fa0 := below_cell hvv a0; have fa1 := below_cell hvv a1; have fa2 := below_cell hvv a2; have fa3 := below_cell hvv a3; have fa4 := below_cell hvv a4; have fa5 := below_cell hvv a5; have fa6 := below_cell hvv a6; have fd0 := below_cell hvv d0; have fd1 := below_cell hvv d1; have fd2 := below_cell hvv d2; have fd3 := below_cell hvv d3; have fd4 := below_cell hvv d4; have fd5 := below_cell hvv d5; have fd6 := below_cell hvv d6; clear hvv)
    | (go_at_call 19; (with_reducible refine (HG.out _ hv1).mono ?_); rintro e v2 ⟨rfl, hvv⟩; have hv2 : Below W1.heap.size W1 v2 := hv1.trans (hvv.mono hv1.size); have ga0 := below_cell hvv fa0; have ga1 := below_cell hvv fa1; have ga2 := below_cell hvv fa2; have ga3 := below_cell hvv fa3; have ga4 := below_cell hvv fa4; have ga5 := below_cell hvv fa5; have ga6 := below_cell hvv fa6; have gd0 := below_cell hvv fd0; have gd1 := below_cell hvv fd1; have gd2 := below_cell hvv fd2; have gd3 := below_cell hvv fd3; have gd4 := below_cell hvv fd4; have gd5 := below_cell hvv fd5; have gd6 := below_cell hvv fd6; clear hvv)
    | (go_at_call 23; (with_reducible refine (HN.out _).mono ?_); rintro e v3 ⟨rfl, hvv⟩; have hv3 : Below W1.heap.size W1 v3 := hv2.trans (hvv.mono hv2.size); have ka0 := below_cell hvv ga0; have ka1 := below_cell hvv ga1; have ka2 := below_cell hvv ga2; have ka3 := below_cell hvv ga3; have ka4 := below_cell hvv ga4; have ka5 := below_cell hvv ga5; have ka6 := below_cell hvv ga6; have kd0 := below_cell hvv gd0; have kd1 := below_cell hvv gd1; have kd2 := below_cell hvv gd2; have kd3 := below_cell hvv gd3; have kd4 := below_cell hvv gd4; have kd5 := below_cell hvv gd5; have kd6 := below_cell hvv gd6; clear hvv)
    | (go_at_call 23; (with_reducible refine (HN.out _).mono ?_); rintro e v4 ⟨rfl, hvv⟩; have hv4 : Below W1.heap.size W1 v4 := hv3.trans (hvv.mono hv3.size); have ja0 := below_cell hvv ka0; have ja1 := below_cell hvv ka1; have ja2 := below_cell hvv ka2; have ja3 := below_cell hvv ka3; have ja4 := below_cell hvv ka4; have ja5 := below_cell hvv ka5; have ja6 := below_cell hvv ka6; have jd0 := below_cell hvv kd0; have jd1 := below_cell hvv kd1; have jd2 := below_cell hvv kd2; have jd3 := below_cell hvv kd3; have jd4 := below_cell hvv kd4; have jd5 := below_cell hvv kd5; have jd6 := below_cell hvv kd6; clear hvv)
    | (go_at_call 43; (with_reducible refine (HC.out _).mono ?_); rintro e v5 ⟨rfl, hvv⟩; have hv5 : Below W1.heap.size W1 v5 := hv4.trans (hvv.mono hv4.size); clear hvv)
    | fail)
  go_ret
  exact ⟨by rfl, HB1.out.trans (hv5.mono HB1.out.size)⟩
end
end Go.Proofs.YtpebnofjcodikaaGreatDoor
