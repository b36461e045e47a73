/- Layer 15: plain values in boxes; Good, isWhole, isNumber, toBig. Layer 15: a bool or an int as a number: the program's and the document's. -/
import Derived.Test.YtnfemojgecljiaaGreatDoorPGWa
import Derived.Test.YtnfemojgecljiaaGreatDoorPGWd
import Derived.Test.YtnfemojgecljiaaGreatDoorRows
import Derived.Lib.Hide
import Derived.WalkKit
import Derived.BigRegion
import Derived.Deep.DeepCutAuto
import Derived.Deep.RegionHeld3
import Derived.RegionTactic
import Derived.WalkSpells
import Derived.WalkLawsBesides
import Derived.Test.YtnfemojgecljiaaGreatDoorPRlWh
import Derived.Test.YtnfemojgecljiaaGreatDoorPWRefInt
import Derived.Test.YtnfemojgecljiaaGreatDoorPGWf
import Derived.Test.YtnfemojgecljiaaGreatDoorPLawForms
namespace Go.Proofs.YtnfemojgecljiaaGreatDoor
section
open Go Go.ChangeShapes Go.WideShapes Go.ChangeAt Go.RowKit
set_option linter.unusedVariables false
set_option linter.unusedSimpArgs false
/-- A box of seven cells: a plain value. -/
structure Bx7 (w : World) (B : Nat) (a0 a1 a2 a3 a4 a5 a6 : Value) : Prop where
  c0 : w.cell? ⟨B, 0, none⟩ = some a0
  c1 : w.cell? ⟨B, 1, none⟩ = some a1
  c2 : w.cell? ⟨B, 2, none⟩ = some a2
  c3 : w.cell? ⟨B, 3, none⟩ = some a3
  c4 : w.cell? ⟨B, 4, none⟩ = some a4
  c5 : w.cell? ⟨B, 5, none⟩ = some a5
  c6 : w.cell? ⟨B, 6, none⟩ = some a6
theorem Bx7.keep {w w' : World} {B : Nat} {a0 a1 a2 a3 a4 a5 a6 : Value} (h : Bx7 w B a0 a1 a2 a3 a4 a5 a6) (hb : Below w.heap.size w w') : Bx7 w' B a0 a1 a2 a3 a4 a5 a6 :=
  ⟨below_cell hb h.c0, below_cell hb h.c1, below_cell hb h.c2, below_cell hb h.c3, below_cell hb h.c4, below_cell hb h.c5, below_cell hb h.c6⟩
theorem Bx7.new (X : World) (a0 a1 a2 a3 a4 a5 a6 : Value) (T : TypeId) {B : Nat} (e : B = X.heap.size) : Bx7 (X.alloc (.cells #[a0, a1, a2, a3, a4, a5, a6] T)) B a0 a1 a2 a3 a4 a5 a6 := by
  subst e; exact ⟨by simp, by simp, by simp, by simp, by simp, by simp, by simp⟩
/-- Has a value what its kind hasn't? -/
def badP (k : Int) (y n : Bool) (l : Nat) (b : Nat) (s : ByteArray) : Bool :=
  (((k != 1) && y || (k != 3) && ((b : Int) != 0)) || (k != 4) && !s.toList.isEmpty) || (k != 2) && (n || decide (0 < l))
/-- Is a plain value in form? -/
def goodP (k : Int) (y n : Bool) (ws : List Int) (b : Nat) (s : ByteArray) (m : Nat) : Bool :=
  decide (m = 0) && !badP k y n ws.length b s && (if k = 0 ∨ k = 1 ∨ k = 3 then true else if k = 2 then goodB n ws else if k = 4 then decide (s.size ≤ 20000) else false)
theorem str_ne0 (s : ByteArray) : s ≠ ByteArray.mk #[] ↔ s.size ≠ 0 := by
  constructor
  · intro h h0
    apply h
    cases s with
    | mk d => congr 1; exact Array.eq_empty_of_size_eq_zero h0
  · intro h h0
    apply h
    rw [h0]; rfl
set_option maxRecDepth 100000 in
set_option maxHeartbeats 8000000 in
theorem good15_any (k : Int) (y n : Bool) (u : Value) (ws : List Int) (b : Nat) (s : ByteArray) (ip : Option Addr) (m ic : Nat) (w : World) (hb : b < 18446744073709551616) (hr : Rd w u ws) (hf : Fit ws) (hm : (m : Int) ≤ 9223372036854775807) (hs : (s.size : Int) ≤ 9223372036854775807) :
    Calls Tryz.prog 25 #[.agg #[.int .i64 k, .bool y, .bool n, u, .int .u64 (b : Int), .string s, .slice ip m ic]] w fun e w' => e = .returned (.bool (goodP k y n ws b s m)) ∧ Below w.heap.size w w' := by
  obtain ⟨p, c, rfl, hc, hwm, hp⟩ := rd_form hr
  have HB1 := Lib.hid (show Below w.heap.size w (w.alloc (.cells #[.int .i64 k, .bool y, .bool n, .slice p ws.length c, .int .u64 (b : Int), .string s, .slice ip m ic] 28)) from (Below.refl _ _).alloc (Nat.le_refl _) _)
  have HX1 := Lib.hid (Bx7.new w (.int .i64 k) (.bool y) (.bool n) (.slice p ws.length c) (.int .u64 (b : Int)) (.string s) (.slice ip m ic) 28 rfl)
  have HR1 := Lib.hid (hr.keep HB1.out)
  have HG := Lib.hid (good_any n _ ws _ HR1.out hf)
  have hgp : goodP k y n ws b s m = (decide (m = 0) && !badP k y n ws.length b s && (if k = 0 ∨ k = 1 ∨ k = 3 then true else if k = 2 then goodB n ws else if k = 4 then decide (s.size ≤ 20000) else false)) := rfl
  have HV := Lib.hid hgp
  obtain ⟨W1, hW1⟩ : ∃ x, w.alloc (.cells #[.int .i64 k, .bool y, .bool n, .slice p ws.length c, .int .u64 (b : Int), .string s, .slice ip m ic] 28) = x := ⟨_, rfl⟩
  rw [hW1] at HB1 HX1 HR1 HG
  clear hgp hr hf hp
  go_enter Tryz.func25, Tryz.ntmps25
  go_upto_region 1 with fail
  (try rw [hW1])
  clear hW1
  have c0 := HX1.out.c0
  have c1 := HX1.out.c1
  have c2 := HX1.out.c2
  have c3 := HX1.out.c3
  have c4 := HX1.out.c4
  have c5 := HX1.out.c5
  have c6 := HX1.out.c6
  by_cases hm0 : m = 0
  · subst hm0
    go_upto_region 4 with fail
    obtain ⟨g, hg⟩ : ∃ g, badP k y n ws.length b s = g := ⟨_, rfl⟩
    rw [hg] at HV
    unfold badP at hg
    obtain ⟨q1, h1⟩ : ∃ q, (k != 1) = q := ⟨_, rfl⟩
    obtain ⟨q3, h3⟩ : ∃ q, (k != 3) = q := ⟨_, rfl⟩
    obtain ⟨q4, h4⟩ : ∃ q, (k != 4) = q := ⟨_, rfl⟩
    obtain ⟨q2, h2⟩ : ∃ q, (k != 2) = q := ⟨_, rfl⟩
    obtain ⟨qb, hqb⟩ : ∃ q, ((b : Int) != 0) = q := ⟨_, rfl⟩
    obtain ⟨qs, hqs⟩ : ∃ q, s.toList.isEmpty = q := ⟨_, rfl⟩
    obtain ⟨ql, hql⟩ : ∃ q, decide (0 < ws.length) = q := ⟨_, rfl⟩
    rw [h1, h3, h4, h2, hqb, hqs, hql] at hg
    have HGb := Lib.hid hg
    clear hg
    go_cut [49] from 10 to 48 (fun t wx => t = .bool g ∧ W1 = wx)
    case first =>
      have w1 : (q1 = true ∧ y = true) ∨ q1 = false ∨ (q1 = true ∧ y = false) := by cases q1 <;> cases y <;> simp
      have w3 : (q3 = true ∧ qb = true) ∨ q3 = false ∨ (q3 = true ∧ qb = false) := by cases q3 <;> cases qb <;> simp
      have w4 : (q4 = true ∧ qs = false) ∨ q4 = false ∨ (q4 = true ∧ qs = true) := by cases q4 <;> cases qs <;> simp
      have w2 : (q2 = true ∧ n = true) ∨ q2 = false ∨ (q2 = true ∧ n = false) := by cases q2 <;> cases n <;> simp
      rcases w1 with ⟨rfl, rfl⟩ | rfl | ⟨rfl, rfl⟩
      · go_wp2_with fail
        go_meet
        exact ⟨by rw [← HGb.out]; rfl, rfl⟩
      all_goals
        rcases w3 with ⟨rfl, rfl⟩ | rfl | ⟨rfl, rfl⟩
        · go_wp2_with fail
          go_meet
          exact ⟨by rw [← HGb.out]; rfl, rfl⟩
        all_goals
          rcases w4 with ⟨rfl, rfl⟩ | rfl | ⟨rfl, rfl⟩
          · go_wp2_with fail
            go_meet
            exact ⟨by rw [← HGb.out]; rfl, rfl⟩
          all_goals
            rcases w2 with ⟨rfl, rfl⟩ | rfl | ⟨rfl, rfl⟩
            all_goals
              go_wp2_with fail
              go_meet
              exact ⟨by rw [← HGb.out]; rfl, rfl⟩
    case rest =>
      obtain ⟨rfl, rfl⟩ := hcut
      clear h1 h2 h3 h4 hqb hqs hql HGb
      cases g
      · simp only [decide_true, Bool.true_and, Bool.not_false] at HV
        by_cases k0 : k = 0
        · subst k0
          go_wp2_with fail
          go_ret
          exact ⟨by rw [HV.out]; rfl, HB1.out⟩
        · by_cases k1 : k = 1
          · subst k1
            go_wp2_with fail
            go_ret
            exact ⟨by rw [HV.out]; rfl, HB1.out⟩
          · by_cases k3 : k = 3
            · subst k3
              go_wp2_with fail
              go_ret
              exact ⟨by rw [HV.out]; rfl, HB1.out⟩
            · rw [if_neg (by omega)] at HV
              by_cases k2 : k = 2
              · subst k2
                rw [if_pos rfl] at HV
                go_wp2_with (first
                  | (go_at_call 50; refine HG.out.mono ?_; rintro e w2 ⟨rfl, hb⟩; have HB2 := Lib.hid (HB1.out.trans (hb.mono HB1.out.size)); clear hb HG)
                  | fail)
                go_ret
                exact ⟨by rw [HV.out]; rfl, HB2.out⟩
              · rw [if_neg k2] at HV
                by_cases k4 : k = 4
                · subst k4
                  rw [if_pos rfl] at HV
                  go_wp2_with fail
                  go_ret
                  exact ⟨by rw [HV.out]; simp; omega, HB1.out⟩
                · rw [if_neg k4] at HV
                  go_wp2_with fail
                  go_ret
                  exact ⟨by rw [HV.out]; rfl, HB1.out⟩
      · simp only [Bool.not_true, Bool.and_false, Bool.false_and] at HV
        go_wp2_with fail
        go_ret
        exact ⟨by rw [HV.out]; rfl, HB1.out⟩
  · have hm1 : (0 : Int) < (m : Int) := by omega
    go_wp2_with fail
    go_ret
    exact ⟨by rw [HV.out, decide_eq_false hm0]; rfl, HB1.out⟩
/-- A bool or an int; a number. -/
def wholeP (k : Int) : Bool := (k == 1) || (k == 2)
def numP (k : Int) : Bool := (k == 3) || ((k == 1) || (k == 2))
section
variable (k : Int) (y n : Bool) (u : Value) (b : Nat) (s : ByteArray) (it : Value) (w : World)
set_option maxRecDepth 100000 in
theorem isWhole_any : Calls Tryz.prog 41 #[.agg #[.int .i64 k, .bool y, .bool n, u, .int .u64 (b : Int), .string s, it]] w fun e w' => e = .returned (.bool (wholeP k)) ∧ Below w.heap.size w w' := by
  have HB1 := Lib.hid (show Below w.heap.size w (w.alloc (.cells #[.int .i64 k, .bool y, .bool n, u, .int .u64 (b : Int), .string s, it] 28)) from (Below.refl _ _).alloc (Nat.le_refl _) _)
  have HW := Lib.hid (show wholeP k = ((k == 1) || (k == 2)) from rfl)
  obtain ⟨q1, h1⟩ : ∃ q, (k == 1) = q := ⟨_, rfl⟩
  rw [h1] at HW
  cases q1
  all_goals
    go_enter Tryz.func41, Tryz.ntmps41
    go_wp2_with fail
    go_ret
    exact ⟨by rw [HW.out]; rfl, HB1.out⟩
set_option maxRecDepth 100000 in
theorem isNumber_any : Calls Tryz.prog 27 #[.agg #[.int .i64 k, .bool y, .bool n, u, .int .u64 (b : Int), .string s, it]] w fun e w' => e = .returned (.bool (numP k)) ∧ Below w.heap.size w w' := by
  have HB1 := Lib.hid (show Below w.heap.size w (w.alloc (.cells #[.int .i64 k, .bool y, .bool n, u, .int .u64 (b : Int), .string s, it] 28)) from (Below.refl _ _).alloc (Nat.le_refl _) _)
  have HW := Lib.hid (show numP k = ((k == 3) || wholeP k) from rfl)
  obtain ⟨q1, h1⟩ : ∃ q, (k == 3) = q := ⟨_, rfl⟩
  obtain ⟨q2, h2⟩ : ∃ q, wholeP k = q := ⟨_, rfl⟩
  have HI := Lib.hid (fun W => isWhole_any k y n u b s it W)
  rw [h1, h2] at HW
  rw [h2] at HI
  clear h2
  cases q1
  all_goals
    go_enter Tryz.func27, Tryz.ntmps27
    go_wp2_with (first
      | (go_at_call 41; refine (HI.out _).mono ?_; rintro e w2 ⟨rfl, hb⟩; have HB2 := Lib.hid (HB1.out.trans (hb.mono HB1.out.size)); clear hb HI)
      | fail)
    go_ret
    exact ⟨by rw [HW.out]; rfl, by first | exact HB2.out | exact HB1.out⟩
end
end
section
open Go Go.ChangeShapes Go.WideShapes Go.ChangeAt Go.RowKit
set_option linter.unusedVariables false
set_option linter.unusedSimpArgs false
/-- A bool or an int as an integer. -/
def zP (k : Int) (y n : Bool) (ws : List Int) : Int := if k = 2 then sg n (val B18 ws) else if y = true then 1 else 0
/-- A number in limbs. -/
def TBPost (W : World) (z : Int) (e : Ending) (w' : World) : Prop :=
  ∃ n p c ws, e = .returned (.agg #[.bool n, .slice p (List.length ws) c]) ∧ Rd w' (.slice p ws.length c) ws ∧ Sgn B18 n ws z ∧ ws.length ≤ 30 ∧ Below W.heap.size W w'
set_option maxRecDepth 100000 in
set_option maxHeartbeats 4000000 in
theorem toBig_any (k : Int) (y n : Bool) (u : Value) (ws : List Int) (b : Nat) (s : ByteArray) (it : Value) (w : World) (hr : Rd w u ws) (hf : Fit ws) (hg : k = 2 → goodB n ws = true) :
    Calls Tryz.prog 38 #[.agg #[.int .i64 k, .bool y, .bool n, u, .int .u64 (b : Int), .string s, it]] w (TBPost w (zP k y n ws)) := by
  obtain ⟨p, c, rfl, hc, hwm, hp⟩ := rd_form hr
  have HZ := Lib.hid (show zP k y n ws = if k = 2 then sg n (val B18 ws) else if y = true then 1 else 0 from rfl)
  obtain ⟨z, hz⟩ : ∃ z, zP k y n ws = z := ⟨_, rfl⟩
  rw [hz] at HZ ⊢
  obtain ⟨W1, hW1⟩ : ∃ x, (w.alloc (.cells #[.int .i64 k, .bool y, .bool n, .slice p ws.length c, .int .u64 (b : Int), .string s, it] 28)).alloc (.cells #[.bool false, .slice none 0 0] 24) = x := ⟨_, rfl⟩
  have HB1 := Lib.hid (show Below w.heap.size w W1 by rw [← hW1]; exact ((Below.refl _ _).alloc (Nat.le_refl _) _).alloc (by simp) _)
  have HX1 := Lib.hid (show Bx7 W1 w.heap.size (.int .i64 k) (.bool y) (.bool n) (.slice p ws.length c) (.int .u64 (b : Int)) (.string s) it by rw [← hW1]; exact (Bx7.new w _ _ _ _ _ _ _ _ rfl).keep ((Below.refl _ _).alloc (Nat.le_refl _) _))
  have HR1 := Lib.hid (show Box2 W1 (w.heap.size + 1) (.bool false) (.slice none 0 0) by rw [← hW1]; exact Box2.new _ _ _ _ (by simp))
  have HRd := Lib.hid (hr.keep HB1.out)
  have c0 := HX1.out.c0
  have c1 := HX1.out.c1
  have c2 := HX1.out.c2
  have c3 := HX1.out.c3
  have d0 := HR1.out.c0
  have d1 := HR1.out.c1
  have f0 := HR1.out.f0
  have f1 := HR1.out.f1
  clear hr hp hz
  by_cases k2 : k = 2
  · obtain ⟨hS, hL⟩ := goodB_sgn (hg k2) hf
    have HS := Lib.hid hS
    have HL := Lib.hid hL
    rw [if_pos k2] at HZ
    subst k2
    clear hS hL hg hf
    go_enter Tryz.func38, Tryz.ntmps38
    go_wp2_with fail
    have z2 := two_setW (x0 := .bool n) (x1 := .slice p ws.length c) HR1.out.c0 HR1.out.c1
    refine bodyPost_ret (v := .agg #[.bool n, .slice p ws.length c]) (by simp [results, Tryz.results38, go_sem, hW1, z2.1, z2.2]) rfl ⟨n, p, c, ws, rfl, (by (try rw [hW1]); exact HRd.out.putN HR1.out _ _), by rw [HZ.out]; exact HS.out, HL.out, ?_⟩
    (try rw [hW1])
    exact (HB1.out.setCell (by simp) _).setCell (by simp) _
  · rw [if_neg k2] at HZ
    have hk2 : (k == 2) = false := by simpa using k2
    clear hg hf k2
    cases y
    · simp only [Bool.false_eq_true, if_false] at HZ
      go_enter Tryz.func38, Tryz.ntmps38
      go_wp2_with fail
      have z2 := two_setW (x0 := .bool false) (x1 := .slice none 0 0) HR1.out.c0 HR1.out.c1
      refine bodyPost_ret (v := .agg #[.bool false, .slice none 0 0]) (by simp [results, Tryz.results38, go_sem, hW1, z2.1, z2.2]) rfl ⟨false, none, 0, [], rfl, .inl ⟨none, rfl, rfl⟩, by rw [HZ.out]; exact Sgn.zero (by decide), by simp, ?_⟩
      (try rw [hW1])
      exact (HB1.out.setCell (by simp) _).setCell (by simp) _
    · simp only [if_true] at HZ
      go_enter Tryz.func38, Tryz.ntmps38
      go_wp2_with fail
      (try rw [hW1])
      refine (wof_at (n := 1) ⟨by decide, by decide⟩ (Below.refl W1.heap.size W1)).mono ?_
      rintro e w2 ⟨n2, p2, cq, ws2, rfl, hR2, hS2, hB2, _⟩
      have HX2 := Lib.hid (HR1.out.keep hB2)
      have HB2 := Lib.hid (HB1.out.trans (hB2.mono HB1.out.size))
      have HR2 := Lib.hid hR2
      have HS2 := Lib.hid hS2
      have HL2 := Lib.hid (HS2.out.small.2 (I64.small ⟨by decide, by decide⟩))
      clear hR2 hS2 hB2 d0 d1 f0 f1 c0 c1 c2 c3 hW1
      have d0 := HX2.out.c0
      have d1 := HX2.out.c1
      have f0 := HX2.out.f0
      have f1 := HX2.out.f1
      go_wp2_with fail
      have z2 := two_setW (x0 := .bool n2) (x1 := .slice p2 ws2.length cq) HX2.out.c0 HX2.out.c1
      refine bodyPost_ret (v := .agg #[.bool n2, .slice p2 ws2.length cq]) (by simp [results, Tryz.results38, go_sem, z2.1, z2.2]) rfl ⟨n2, p2, cq, ws2, rfl, HR2.out.putN HX2.out _ _, by rw [HZ.out]; exact HS2.out, HL2.out, ?_⟩
      exact (HB2.out.setCell (by simp) _).setCell (by simp) _
set_option maxRecDepth 100000 in
set_option maxHeartbeats 4000000 in
theorem rwhole_any (k : Int) (y n : Bool) (u : Value) (ws : List Int) (b : Nat) (s : ByteArray) (it : Value) (w : World) (hr : Rd w u ws) (hf : Fit ws) (hg : k = 2 → goodB n ws = true) (hk : k = 1 ∨ k = 2) :
    Calls Tryz.prog 57 #[.agg #[.int .i64 k, .bool y, .bool n, u, .int .u64 (b : Int), .string s, it]] w (NumAt w w (zP k y n ws)) := by
  obtain ⟨p, c, rfl, hc, hwm, hp⟩ := rd_form hr
  have HZ := Lib.hid (show zP k y n ws = if k = 2 then sg n (val B18 ws) else if y = true then 1 else 0 from rfl)
  obtain ⟨z, hz⟩ : ∃ z, zP k y n ws = z := ⟨_, rfl⟩
  rw [hz] at HZ ⊢
  obtain ⟨W1, hW1⟩ : ∃ x, (w.alloc (.cells #[.int .i64 k, .bool y, .bool n, .slice p ws.length c, .int .u64 (b : Int), .string s, it] 28)).alloc (.cells #[.bool false, .slice none 0 0] 45) = x := ⟨_, rfl⟩
  have HB1 := Lib.hid (show Below w.heap.size w W1 by rw [← hW1]; exact ((Below.refl _ _).alloc (Nat.le_refl _) _).alloc (by simp) _)
  have HX1 := Lib.hid (show Bx7 W1 w.heap.size (.int .i64 k) (.bool y) (.bool n) (.slice p ws.length c) (.int .u64 (b : Int)) (.string s) it by rw [← hW1]; exact (Bx7.new w _ _ _ _ _ _ _ _ rfl).keep ((Below.refl _ _).alloc (Nat.le_refl _) _))
  have HR1 := Lib.hid (show Box2 W1 (w.heap.size + 1) (.bool false) (.slice none 0 0) by rw [← hW1]; exact Box2.new _ _ _ _ (by simp))
  have HRd := Lib.hid (hr.keep HB1.out)
  have c0 := HX1.out.c0
  have c1 := HX1.out.c1
  have c2 := HX1.out.c2
  have c3 := HX1.out.c3
  clear hr hp hz
  by_cases k2 : k = 2
  · obtain ⟨hS, hL⟩ := goodB_sgn (hg k2) hf
    rw [if_pos k2] at HZ
    subst k2
    rw [← HZ.out] at hS
    have HO := Lib.hid (of_at (W := W1) HRd.out hS (by omega) W1 (Below.refl _ _))
    clear hS hL hg hf hk
    go_enter Tryz.func57, Tryz.ntmps57
    go_wp2_with fail
    (try rw [hW1])
    refine HO.out.mono ?_
    rintro e w2 ⟨m, q, k9, ds, rfl, hR2, hS2, hB2, _⟩
    have HX2 := Lib.hid (HR1.out.keep hB2)
    have HB2 := Lib.hid (HB1.out.trans (hB2.mono HB1.out.size))
    have HR2 := Lib.hid hR2
    have HS2 := Lib.hid hS2
    clear hR2 hS2 hB2 c0 c1 c2 c3 hW1
    have d0 := HX2.out.c0
    have d1 := HX2.out.c1
    have f0 := HX2.out.f0
    have f1 := HX2.out.f1
    go_wp2_with fail
    have z2 := two_setW (x0 := .bool m) (x1 := .slice q ds.length k9) HX2.out.c0 HX2.out.c1
    have hbb := (HB2.out.setCell (p := ⟨w.heap.size + 1, 0, none⟩) (by simp) (.bool m)).setCell (p := ⟨w.heap.size + 1, 1, none⟩) (by simp) (.slice q ds.length k9)
    exact bodyPost_ret (v := .agg #[.bool m, .slice q ds.length k9]) (by simp [results, Tryz.results57, go_sem, z2.1, z2.2]) rfl ⟨m, q, k9, ds, rfl, HR2.out.set2 HX2.out _ _, HS2.out, hbb, hbb⟩
  · rw [if_neg k2] at HZ
    obtain rfl : k = 1 := by omega
    clear hg hf k2 hk
    cases y
    · simp only [Bool.false_eq_true, if_false] at HZ
      have HO := Lib.hid (show Calls Tryz.prog 20 #[.int .i64 0] W1 (NumAt W1 W1 z) by rw [HZ.out]; exact refint_at ⟨by decide, by decide⟩ (Below.refl _ _))
      go_enter Tryz.func57, Tryz.ntmps57
      go_wp2_with fail
      (try rw [hW1])
      refine HO.out.mono ?_
      rintro e w2 ⟨m, q, k9, ds, rfl, hR2, hS2, hB2, _⟩
      have HX2 := Lib.hid (HR1.out.keep hB2)
      have HB2 := Lib.hid (HB1.out.trans (hB2.mono HB1.out.size))
      have HR2 := Lib.hid hR2
      have HS2 := Lib.hid hS2
      clear hR2 hS2 hB2 c0 c1 c2 c3 hW1
      have d0 := HX2.out.c0
      have d1 := HX2.out.c1
      have f0 := HX2.out.f0
      have f1 := HX2.out.f1
      go_wp2_with fail
      have z2 := two_setW (x0 := .bool m) (x1 := .slice q ds.length k9) HX2.out.c0 HX2.out.c1
      have hbb := (HB2.out.setCell (p := ⟨w.heap.size + 1, 0, none⟩) (by simp) (.bool m)).setCell (p := ⟨w.heap.size + 1, 1, none⟩) (by simp) (.slice q ds.length k9)
      exact bodyPost_ret (v := .agg #[.bool m, .slice q ds.length k9]) (by simp [results, Tryz.results57, go_sem, z2.1, z2.2]) rfl ⟨m, q, k9, ds, rfl, HR2.out.set2 HX2.out _ _, HS2.out, hbb, hbb⟩
    · simp only [if_true] at HZ
      have HO := Lib.hid (show Calls Tryz.prog 20 #[.int .i64 1] W1 (NumAt W1 W1 z) by rw [HZ.out]; exact refint_at ⟨by decide, by decide⟩ (Below.refl _ _))
      go_enter Tryz.func57, Tryz.ntmps57
      go_wp2_with fail
      (try rw [hW1])
      refine HO.out.mono ?_
      rintro e w2 ⟨m, q, k9, ds, rfl, hR2, hS2, hB2, _⟩
      have HX2 := Lib.hid (HR1.out.keep hB2)
      have HB2 := Lib.hid (HB1.out.trans (hB2.mono HB1.out.size))
      have HR2 := Lib.hid hR2
      have HS2 := Lib.hid hS2
      clear hR2 hS2 hB2 c0 c1 c2 c3 hW1
      have d0 := HX2.out.c0
      have d1 := HX2.out.c1
      have f0 := HX2.out.f0
      have f1 := HX2.out.f1
      go_wp2_with fail
      have z2 := two_setW (x0 := .bool m) (x1 := .slice q ds.length k9) HX2.out.c0 HX2.out.c1
      have hbb := (HB2.out.setCell (p := ⟨w.heap.size + 1, 0, none⟩) (by simp) (.bool m)).setCell (p := ⟨w.heap.size + 1, 1, none⟩) (by simp) (.slice q ds.length k9)
      exact bodyPost_ret (v := .agg #[.bool m, .slice q ds.length k9]) (by simp [results, Tryz.results57, go_sem, z2.1, z2.2]) rfl ⟨m, q, k9, ds, rfl, HR2.out.set2 HX2.out _ _, HS2.out, hbb, hbb⟩
section
variable (k : Int) (y n : Bool) (u : Value) (b : Nat) (s : ByteArray) (it : Value) (w : World)
set_option maxRecDepth 100000 in
theorem number15_any : Calls Tryz.prog 31 #[.agg #[.int .i64 k, .bool y, .bool n, u, .int .u64 (b : Int), .string s, it]] w fun e w' => e = .returned (.bool (numP k)) ∧ Below w.heap.size w w' := by
  have HB1 := Lib.hid (show Below w.heap.size w (w.alloc (.cells #[.int .i64 k, .bool y, .bool n, u, .int .u64 (b : Int), .string s, it] 28)) from (Below.refl _ _).alloc (Nat.le_refl _) _)
  have HW := Lib.hid (show numP k = ((k == 1 || k == 2) || k == 3) by unfold numP; cases (k == 3) <;> cases (k == 1) <;> cases (k == 2) <;> rfl)
  obtain ⟨q1, h1⟩ : ∃ q, (k == 1) = q := ⟨_, rfl⟩
  obtain ⟨q2, h2⟩ : ∃ q, (k == 2) = q := ⟨_, rfl⟩
  rw [h1, h2] at HW
  cases q1
  all_goals
    cases q2
    all_goals
      go_enter Tryz.func31, Tryz.ntmps31
      go_wp2_with fail
      go_ret
      exact ⟨by rw [HW.out]; rfl, HB1.out⟩
end
end
end Go.Proofs.YtnfemojgecljiaaGreatDoor
