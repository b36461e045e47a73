/- Layer 15: the hash and the truth of any plain value. A plain value stored into a box. Layer 15: the chapter's examples, run: a sum of a bool and an int; values made. Layer 15: the chapter's examples, run: a sum. -/
import Derived.Test.YtnfemojgecljiaaGreatDoorPGPlM
import Derived.Test.YtnfemojgecljiaaGreatDoorPGRlL
import Derived.Test.YtnfemojgecljiaaGreatDoorPGWc
import Derived.Test.YtnfemojgecljiaaGreatDoorPGWf
namespace Go.Proofs.YtnfemojgecljiaaGreatDoor
section
open Go Go.ChangeShapes Go.WideShapes Go.ChangeAt Go.RowKit
set_option linter.unusedVariables false
set_option linter.unusedSimpArgs false
/-- A whole number's hash. -/
def hzZ (z : Int) : Int := if z < 0 then -((z.natAbs : Int) % 2147483647) else (z.natAbs : Int) % 2147483647
theorem hb_z {n : Bool} {ws : List Int} {z : Int} (h : Sgn B18 n ws z) (hl : ws.length ≤ 30) : hbV n ws = hzZ z := by
  have h1 := goodB_of h hl
  have h2 := h.abs (by decide)
  have h3 := h.neg_iff (by decide)
  unfold hbV hzZ hh
  rw [if_pos h1, List.drop_zero, h2, h3]
  by_cases hz : z < 0
  · rw [if_pos hz, decide_eq_true hz, if_pos rfl]
  · rw [if_neg hz, decide_eq_false hz, if_neg (by decide)]
theorem hz_lo (z : Int) : -2147483647 ≤ hzZ z ∧ hzZ z ≤ 2147483647 := by unfold hzZ; split <;> omega
/-- A plain value's hash, whether it is in form told. -/
def haP (g : Bool) (k : Int) (b : Nat) (s : ByteArray) (z : Int) : Int := if g = true then (if k = 0 then 1 else if k = 3 then hashV b else if k = 4 then hsT s.data.toList (s.size : Int) else hzZ z) else 0
theorem good_len {k : Int} {y n : Bool} {ws : List Int} {b : Nat} {s : ByteArray} {m : Nat} (h : goodP k y n ws b s m = true) (h4 : k = 4) : s.size ≤ 20000 := by
  subst h4
  unfold goodP at h
  simp at h
  omega
set_option maxRecDepth 100000 in
set_option maxHeartbeats 4000000 in
theorem hash15_any (k : Int) (y n : Bool) (u : Value) (ws : List Int) (b : Nat) (s : ByteArray) (ip : Option Addr) (m ic : Nat) (w : World) (hb : b < 18446744073709551616) (hr : Rd w u ws) (hf : Fit ws) (hm : (m : Int) ≤ 9223372036854775807) (hs : (s.size : Int) ≤ 9223372036854775807) :
    Calls Tryz.prog 13 #[.agg #[.int .i64 k, .bool y, .bool n, u, .int .u64 (b : Int), .string s, .slice ip m ic]] w fun e w' => e = .returned (.int .i64 (haP (goodP k y n ws b s m) k b s (zP k y n ws))) ∧ Below w.heap.size w w' := by
  obtain ⟨p, c, rfl, hc, hwm, hp⟩ := rd_form hr
  have HB1 := Lib.hid (show Below w.heap.size w (w.alloc (.cells #[.int .i64 k, .bool y, .bool n, .slice p ws.length c, .int .u64 (b : Int), .string s, .slice ip m ic] 28)) from (Below.refl _ _).alloc (Nat.le_refl _) _)
  have HX1 := Lib.hid (Bx7.new w (.int .i64 k) (.bool y) (.bool n) (.slice p ws.length c) (.int .u64 (b : Int)) (.string s) (.slice ip m ic) 28 rfl)
  have HR1 := Lib.hid (hr.keep HB1.out)
  have HG := Lib.hid (good15_any k y n _ ws b s ip m ic _ hb HR1.out hf hm hs)
  obtain ⟨W1, hW1⟩ : ∃ x, w.alloc (.cells #[.int .i64 k, .bool y, .bool n, .slice p ws.length c, .int .u64 (b : Int), .string s, .slice ip m ic] 28) = x := ⟨_, rfl⟩
  rw [hW1] at HB1 HX1 HG HR1
  have HK2 := Lib.hid (fun (h : goodP k y n ws b s m = true) => good_k2 h)
  have HL4 := Lib.hid (fun (h : goodP k y n ws b s m = true) (h4 : k = 4) => good_len h h4)
  have HT := Lib.hid (fun (h : goodP k y n ws b s m = true) (W : World) (hx : Rd W (.slice p ws.length c) ws) => toBig_any k y n _ ws b s (.slice ip m ic) W hx hf (HK2.out h))
  have HH := Lib.hid (fun W => hash_any b hb W)
  have HHT := Lib.hid (fun (h : goodP k y n ws b s m = true) (h4 : k = 4) (W : World) => hashText_any s W (by have := HL4.out h h4; omega))
  have HV := Lib.hid (show haP (goodP k y n ws b s m) k b s (zP k y n ws) = if goodP k y n ws b s m = true then (if k = 0 then 1 else if k = 3 then hashV b else if k = 4 then hsT s.data.toList (s.size : Int) else hzZ (zP k y n ws)) else 0 from rfl)
  obtain ⟨g, hg⟩ : ∃ g, goodP k y n ws b s m = g := ⟨_, rfl⟩
  obtain ⟨z, hz⟩ : ∃ z, zP k y n ws = z := ⟨_, rfl⟩
  rw [hg] at HG HT HHT HV HK2 HL4 ⊢
  rw [hz] at HT HV ⊢
  clear hr hf hp hg hz
  have c0 := HX1.out.c0
  have c1 := HX1.out.c1
  have c2 := HX1.out.c2
  have c3 := HX1.out.c3
  have c4 := HX1.out.c4
  have c5 := HX1.out.c5
  have c6 := HX1.out.c6
  cases g
  · simp only [Bool.false_eq_true, if_false] at HV
    clear HT HHT HK2 HL4
    go_enter Tryz.func13, Tryz.ntmps13
    go_wp2_with (first
      | (go_at_call 25; (try rw [hW1]); refine HG.out.mono ?_; rintro e w2 ⟨rfl, hbb⟩; have HB2 := Lib.hid (HB1.out.trans (hbb.mono HB1.out.size)); clear hbb HG)
      | fail)
    go_ret
    exact ⟨by rw [HV.out]; rfl, HB2.out⟩
  · simp only [if_true] at HV
    have HT' := Lib.hid (HT.out rfl)
    have HHT' := Lib.hid (HHT.out rfl)
    clear HT HHT HK2 HL4
    by_cases k0 : k = 0
    · subst k0
      rw [if_pos rfl] at HV
      go_enter Tryz.func13, Tryz.ntmps13
      go_wp2_with (first
        | (go_at_call 25; (try rw [hW1]); refine HG.out.mono ?_; rintro e w2 ⟨rfl, hbb⟩; have HB2 := Lib.hid (HB1.out.trans (hbb.mono HB1.out.size)); have d0 := below_cell hbb c0; have d1 := below_cell hbb c1; have d2 := below_cell hbb c2; have d3 := below_cell hbb c3; have d4 := below_cell hbb c4; have d5 := below_cell hbb c5; have d6 := below_cell hbb c6; clear hbb HG)
        | fail)
      go_ret
      exact ⟨by rw [HV.out]; rfl, HB2.out⟩
    · rw [if_neg k0] at HV
      have q0 : (k == 0) = false := by simpa using k0
      by_cases k3 : k = 3
      · subst k3
        rw [if_pos rfl] at HV
        go_enter Tryz.func13, Tryz.ntmps13
        go_wp2_with (first
          | (go_at_call 25; (try rw [hW1]); refine HG.out.mono ?_; rintro e w2 ⟨rfl, hbb⟩; have HB2 := Lib.hid (HB1.out.trans (hbb.mono HB1.out.size)); have d0 := below_cell hbb c0; have d1 := below_cell hbb c1; have d2 := below_cell hbb c2; have d3 := below_cell hbb c3; have d4 := below_cell hbb c4; have d5 := below_cell hbb c5; have d6 := below_cell hbb c6; clear hbb HG)
          | (go_at_call 35; (with_reducible refine (HH.out _).mono ?_); rintro e w9 ⟨rfl, rfl⟩)
          | fail)
        go_ret
        exact ⟨by rw [HV.out]; rfl, HB2.out⟩
      · rw [if_neg k3] at HV
        have q3 : (k == 3) = false := by simpa using k3
        by_cases k4 : k = 4
        · subst k4
          rw [if_pos rfl] at HV
          have HHT2 := Lib.hid (HHT'.out rfl)
          go_enter Tryz.func13, Tryz.ntmps13
          go_wp2_with (first
            | (go_at_call 25; (try rw [hW1]); refine HG.out.mono ?_; rintro e w2 ⟨rfl, hbb⟩; have HB2 := Lib.hid (HB1.out.trans (hbb.mono HB1.out.size)); have d0 := below_cell hbb c0; have d1 := below_cell hbb c1; have d2 := below_cell hbb c2; have d3 := below_cell hbb c3; have d4 := below_cell hbb c4; have d5 := below_cell hbb c5; have d6 := below_cell hbb c6; clear hbb HG)
            | (go_at_call 36; (with_reducible refine (HHT2.out _).mono ?_); rintro e w9 ⟨rfl, rfl⟩)
            | fail)
          go_ret
          exact ⟨by rw [HV.out]; rfl, HB2.out⟩
        · rw [if_neg k4] at HV
          have q4 : (k == 4) = false := by simpa using k4
          clear k0 k3 k4 HHT'
          go_enter Tryz.func13, Tryz.ntmps13
          go_wp2_with (first
            | (go_at_call 25; (try rw [hW1]); refine HG.out.mono ?_; rintro e w2 ⟨rfl, hbb⟩; have HB2 := Lib.hid (HB1.out.trans (hbb.mono HB1.out.size)); have HR2 := Lib.hid (HR1.out.keep hbb); have d0 := below_cell hbb c0; have d1 := below_cell hbb c1; have d2 := below_cell hbb c2; have d3 := below_cell hbb c3; have d4 := below_cell hbb c4; have d5 := below_cell hbb c5; have d6 := below_cell hbb c6; clear hbb HG)
            | fail)
          refine (HT'.out w2 HR2.out).mono ?_
          rintro e w3 ⟨n3, p3, c3', ws3, rfl, hR3, hS3, hL3, hb3⟩
          have HHB := hashBig_any n3 _ ws3 w3 hR3 hS3.canon.fit
          rw [hb_z hS3 hL3] at HHB
          have HB3 := Lib.hid (HB2.out.trans (hb3.mono HB2.out.size))
          have HHB' := Lib.hid HHB
          clear hR3 hS3 hL3 hb3 HHB
          go_wp2_with fail
          refine HHB'.out.mono ?_
          rintro e w4 ⟨rfl, hb4⟩
          have HB4 := Lib.hid (HB3.out.trans (hb4.mono HB3.out.size))
          clear hb4
          go_wp2_with fail
          go_ret
          exact ⟨by rw [HV.out]; rfl, HB4.out⟩
end
section
open Go Go.ChangeShapes Go.WideShapes Go.ChangeAt Go.RowKit
set_option linter.unusedVariables false
set_option linter.unusedSimpArgs false
@[reducible] def put7 (w : World) (B : Nat) (v0 v1 v2 v3 v4 v5 v6 : Value) : World :=
  ((((((w.setCell ⟨B, 0, none⟩ v0).setCell ⟨B, 1, none⟩ v1).setCell ⟨B, 2, none⟩ v2).setCell ⟨B, 3, none⟩ v3).setCell ⟨B, 4, none⟩ v4).setCell ⟨B, 5, none⟩ v5).setCell ⟨B, 6, none⟩ v6
theorem off_ne {B i j : Nat} (h : i ≠ j) : (⟨B, i, none⟩ : Addr) ≠ ⟨B, j, none⟩ := fun e => h (by injection e)
theorem put7_bx {w : World} {B : Nat} {a0 a1 a2 a3 a4 a5 a6 : Value} (h : Bx7 w B a0 a1 a2 a3 a4 a5 a6) (v0 v1 v2 v3 v4 v5 v6 : Value) : Bx7 (put7 w B v0 v1 v2 v3 v4 v5 v6) B v0 v1 v2 v3 v4 v5 v6 := by
  unfold put7
  have o : ∀ {w : World} {i j : Nat} {x v : Value}, i ≠ j → w.cell? ⟨B, j, none⟩ = some v → (w.setCell ⟨B, i, none⟩ x).cell? ⟨B, j, none⟩ = some v := fun hn hc => (World.cell?_setCell_other _ _ _ _ (off_ne hn)).trans hc
  have s : ∀ {w : World} {i : Nat} {x v : Value}, w.cell? ⟨B, i, none⟩ = some v → (w.setCell ⟨B, i, none⟩ x).cell? ⟨B, i, none⟩ = some x := fun hc => World.cell?_setCell_same _ _ _ hc
  refine ⟨?_, ?_, ?_, ?_, ?_, ?_, ?_⟩
  · exact o (by decide) (o (by decide) (o (by decide) (o (by decide) (o (by decide) (o (by decide) (s h.c0))))))
  · exact o (by decide) (o (by decide) (o (by decide) (o (by decide) (o (by decide) (s (o (by decide) h.c1))))))
  · exact o (by decide) (o (by decide) (o (by decide) (o (by decide) (s (o (by decide) (o (by decide) h.c2))))))
  · exact o (by decide) (o (by decide) (o (by decide) (s (o (by decide) (o (by decide) (o (by decide) h.c3))))))
  · exact o (by decide) (o (by decide) (s (o (by decide) (o (by decide) (o (by decide) (o (by decide) h.c4))))))
  · exact o (by decide) (s (o (by decide) (o (by decide) (o (by decide) (o (by decide) (o (by decide) h.c5))))))
  · exact s (o (by decide) (o (by decide) (o (by decide) (o (by decide) (o (by decide) (o (by decide) h.c6))))))
theorem MU.set1 {w : World} {B0 : Nat} {a : Addr} {u : Value} {ws : List Int} (h : MU w B0 u ws) (hB : a.block < B0) (x : Value) : MU (w.setCell a x) B0 u ws := by
  rcases h with h | ⟨g, c, cur, h0, h1, h2, h3, h4, h5⟩
  · exact .inl h
  · refine .inr ⟨g, c, cur, h0, h1, h2, h3, ?_, h5⟩
    rw [Below.heap_setCell _ _ _ _ (by omega)]
    exact h4
theorem put7_mu {w : World} {B B0 : Nat} {u : Value} {ws : List Int} (h : MU w B0 u ws) (hB : B < B0) (v0 v1 v2 v3 v4 v5 v6 : Value) : MU (put7 w B v0 v1 v2 v3 v4 v5 v6) B0 u ws :=
  ((((((h.set1 hB _).set1 hB _).set1 hB _).set1 hB _).set1 hB _).set1 hB _).set1 hB _
theorem put7_below {w0 w : World} {n B : Nat} (h : Below n w0 w) (hn : n ≤ B) (v0 v1 v2 v3 v4 v5 v6 : Value) : Below n w0 (put7 w B v0 v1 v2 v3 v4 v5 v6) :=
  ((((((h.setCell hn _).setCell hn _).setCell hn _).setCell hn _).setCell hn _).setCell hn _).setCell hn _
theorem put7_far {w : World} {B A i : Nat} {a : Value} (h : w.cell? ⟨A, i, none⟩ = some a) (hn : B ≠ A) (v0 v1 v2 v3 v4 v5 v6 : Value) : (put7 w B v0 v1 v2 v3 v4 v5 v6).cell? ⟨A, i, none⟩ = some a := by
  have o : ∀ {w : World} {j : Nat} {x : Value}, w.cell? ⟨A, i, none⟩ = some a → (w.setCell ⟨B, j, none⟩ x).cell? ⟨A, i, none⟩ = some a := fun hc => (World.cell?_setCell_other _ _ _ _ (fun e => hn (by injection e))).trans hc
  exact o (o (o (o (o (o (o h))))))
theorem put7_two {w : World} {B A D : Nat} {a0 a1 a2 a3 a4 a5 a6 d0 d1 d2 d3 d4 d5 d6 : Value} (h : (w).cell? ⟨A, 0, none⟩ = some a0 ∧ (w).cell? ⟨A, 1, none⟩ = some a1 ∧ (w).cell? ⟨A, 2, none⟩ = some a2 ∧ (w).cell? ⟨A, 3, none⟩ = some a3 ∧ (w).cell? ⟨A, 4, none⟩ = some a4 ∧ (w).cell? ⟨A, 5, none⟩ = some a5 ∧ (w).cell? ⟨A, 6, none⟩ = some a6 ∧ (w).cell? ⟨D, 0, none⟩ = some d0 ∧ (w).cell? ⟨D, 1, none⟩ = some d1 ∧ (w).cell? ⟨D, 2, none⟩ = some d2 ∧ (w).cell? ⟨D, 3, none⟩ = some d3 ∧ (w).cell? ⟨D, 4, none⟩ = some d4 ∧ (w).cell? ⟨D, 5, none⟩ = some d5 ∧ (w).cell? ⟨D, 6, none⟩ = some d6) (n1 : B ≠ A) (n2 : B ≠ D) (v0 v1 v2 v3 v4 v5 v6 : Value) :
    (put7 w B v0 v1 v2 v3 v4 v5 v6).cell? ⟨A, 0, none⟩ = some a0 ∧ (put7 w B v0 v1 v2 v3 v4 v5 v6).cell? ⟨A, 1, none⟩ = some a1 ∧ (put7 w B v0 v1 v2 v3 v4 v5 v6).cell? ⟨A, 2, none⟩ = some a2 ∧ (put7 w B v0 v1 v2 v3 v4 v5 v6).cell? ⟨A, 3, none⟩ = some a3 ∧ (put7 w B v0 v1 v2 v3 v4 v5 v6).cell? ⟨A, 4, none⟩ = some a4 ∧ (put7 w B v0 v1 v2 v3 v4 v5 v6).cell? ⟨A, 5, none⟩ = some a5 ∧ (put7 w B v0 v1 v2 v3 v4 v5 v6).cell? ⟨A, 6, none⟩ = some a6 ∧ (put7 w B v0 v1 v2 v3 v4 v5 v6).cell? ⟨D, 0, none⟩ = some d0 ∧ (put7 w B v0 v1 v2 v3 v4 v5 v6).cell? ⟨D, 1, none⟩ = some d1 ∧ (put7 w B v0 v1 v2 v3 v4 v5 v6).cell? ⟨D, 2, none⟩ = some d2 ∧ (put7 w B v0 v1 v2 v3 v4 v5 v6).cell? ⟨D, 3, none⟩ = some d3 ∧ (put7 w B v0 v1 v2 v3 v4 v5 v6).cell? ⟨D, 4, none⟩ = some d4 ∧ (put7 w B v0 v1 v2 v3 v4 v5 v6).cell? ⟨D, 5, none⟩ = some d5 ∧ (put7 w B v0 v1 v2 v3 v4 v5 v6).cell? ⟨D, 6, none⟩ = some d6 := by
  obtain ⟨ha0, ha1, ha2, ha3, ha4, ha5, ha6, hd0, hd1, hd2, hd3, hd4, hd5, hd6⟩ := h
  exact ⟨put7_far ha0 n1 _ _ _ _ _ _ _, put7_far ha1 n1 _ _ _ _ _ _ _, put7_far ha2 n1 _ _ _ _ _ _ _, put7_far ha3 n1 _ _ _ _ _ _ _, put7_far ha4 n1 _ _ _ _ _ _ _, put7_far ha5 n1 _ _ _ _ _ _ _, put7_far ha6 n1 _ _ _ _ _ _ _, put7_far hd0 n2 _ _ _ _ _ _ _, put7_far hd1 n2 _ _ _ _ _ _ _, put7_far hd2 n2 _ _ _ _ _ _ _, put7_far hd3 n2 _ _ _ _ _ _ _, put7_far hd4 n2 _ _ _ _ _ _ _, put7_far hd5 n2 _ _ _ _ _ _ _, put7_far hd6 n2 _ _ _ _ _ _ _⟩
/-- A box of seven cells that may be written. -/
structure Bw7 (w : World) (B : Nat) (a0 a1 a2 a3 a4 a5 a6 : Value) : Prop where
  b : Bx7 w B a0 a1 a2 a3 a4 a5 a6
  f0 : w.frozen? ⟨B, 0, none⟩ = false
  f1 : w.frozen? ⟨B, 1, none⟩ = false
  f2 : w.frozen? ⟨B, 2, none⟩ = false
  f3 : w.frozen? ⟨B, 3, none⟩ = false
  f4 : w.frozen? ⟨B, 4, none⟩ = false
  f5 : w.frozen? ⟨B, 5, none⟩ = false
  f6 : w.frozen? ⟨B, 6, none⟩ = false
theorem Bw7.new (X : World) (a0 a1 a2 a3 a4 a5 a6 : Value) (T : TypeId) {B : Nat} (e : B = X.heap.size) : Bw7 (X.alloc (.cells #[a0, a1, a2, a3, a4, a5, a6] T)) B a0 a1 a2 a3 a4 a5 a6 := by
  refine ⟨Bx7.new X _ _ _ _ _ _ _ T e, ?_, ?_, ?_, ?_, ?_, ?_, ?_⟩
  all_goals (subst e; simp)
theorem Bw7.keep {w w' : World} {B : Nat} {a0 a1 a2 a3 a4 a5 a6 : Value} (h : Bw7 w B a0 a1 a2 a3 a4 a5 a6) (hb : Below w.heap.size w w') : Bw7 w' B a0 a1 a2 a3 a4 a5 a6 := by
  have hl := World.block_lt_of_cell? _ _ h.b.c0
  have k : ∀ i, w'.frozen? ⟨B, i, none⟩ = w.frozen? ⟨B, i, none⟩ := fun i => World.frozen?_of_block (a := ⟨B, i, none⟩) (hb.block B hl)
  exact ⟨h.b.keep hb, (k 0).trans h.f0, (k 1).trans h.f1, (k 2).trans h.f2, (k 3).trans h.f3, (k 4).trans h.f4, (k 5).trans h.f5, (k 6).trans h.f6⟩
end
section
open Go Go.ChangeShapes Go.WideShapes Go.ChangeAt Go.RowKit
set_option linter.unusedVariables false
set_option linter.unusedSimpArgs false
set_option maxRecDepth 100000 in
theorem rBool_any (w : World) : Calls Tryz.prog 18 #[.bool true] w fun e w' => e = .returned (.agg #[.int .i64 1, .bool true, .bool false, .slice none 0 0, .int .u64 0, .string ⟨#[]⟩, .slice none 0 0]) ∧ Below w.heap.size w w' := by
  go_enter Tryz.func18, Tryz.ntmps18
  go_wp2_with fail
  refine bodyPost_ret (v := .agg #[.int .i64 1, .bool true, .bool false, .slice none 0 0, .int .u64 0, .string ⟨#[]⟩, .slice none 0 0]) (by simp [results, Tryz.results18, go_sem]) rfl ⟨rfl, (Below.refl _ _).alloc (Nat.le_refl _) _⟩
set_option maxRecDepth 100000 in
theorem rStr_any (s : ByteArray) (w : World) : Calls Tryz.prog 23 #[.string s] w fun e w' => e = .returned (.agg #[.int .i64 4, .bool false, .bool false, .slice none 0 0, .int .u64 0, .string s, .slice none 0 0]) ∧ Below w.heap.size w w' := by
  go_enter Tryz.func23, Tryz.ntmps23
  go_wp2_with fail
  refine bodyPost_ret (v := .agg #[.int .i64 4, .bool false, .bool false, .slice none 0 0, .int .u64 0, .string s, .slice none 0 0]) (by simp [results, Tryz.results23, go_sem]) rfl ⟨rfl, (Below.refl _ _).alloc (Nat.le_refl _) _⟩
/-- An int made of a number. -/
def IntP (W : World) (z : Int) (e : Ending) (w' : World) : Prop :=
  ∃ n p c ws, e = .returned (.agg #[.int .i64 2, .bool false, .bool n, .slice p (List.length ws) c, .int .u64 0, .string ⟨#[]⟩, .slice none 0 0]) ∧ Rd w' (.slice p ws.length c) ws ∧ Sgn B18 n ws z ∧ ws.length ≤ 30 ∧ Below W.heap.size W w'
set_option maxRecDepth 100000 in
set_option maxHeartbeats 4000000 in
theorem rInt_any (m : Bool) (p : Option Addr) (c : Nat) (ds : List Int) (z : Int) (w : World) (hr : Rb w (.slice p ds.length c) ds) (hs : Sgn 10 m ds z) (hz : Small z) :
    Calls Tryz.prog 19 #[.agg #[.bool m, .slice p ds.length c]] w (IntP w z) := by
  obtain ⟨W1, hW1⟩ : ∃ x, (w.alloc (.cells #[.bool m, .slice p ds.length c] 45)).alloc (.cells #[.int .i64 0, .bool false, .bool false, .slice none 0 0, .int .u64 0, .string ⟨#[]⟩, .slice none 0 0] 28) = x := ⟨_, rfl⟩
  have HB1 := Lib.hid (show Below w.heap.size w W1 by rw [← hW1]; exact ((Below.refl _ _).alloc (Nat.le_refl _) _).alloc (by simp) _)
  have HX1 := Lib.hid (show Box2 W1 w.heap.size (.bool m) (.slice p ds.length c) by rw [← hW1]; exact (Box2.new _ _ _ _ rfl).alloc _)
  have HV1 := Lib.hid (show Bw7 W1 (w.heap.size + 1) (.int .i64 0) (.bool false) (.bool false) (.slice none 0 0) (.int .u64 0) (.string ⟨#[]⟩) (.slice none 0 0) by rw [← hW1]; exact Bw7.new _ _ _ _ _ _ _ _ _ (by simp))
  have HR := Lib.hid (hr.keep HB1.out)
  have HT := Lib.hid (to_any m _ ds z W1 HR.out hs (by have := hs.fits.2 hz; omega))
  have HZ := Lib.hid hz
  clear hr hs hz
  have c0 := HX1.out.c0
  have c1 := HX1.out.c1
  go_enter Tryz.func19, Tryz.ntmps19
  go_wp2_with fail
  (try rw [hW1])
  clear hW1
  refine HT.out.mono ?_
  rintro e w2 ⟨n2, u2, ws, rfl, hM2, hS2, hB2⟩
  obtain ⟨p2, k2, rfl⟩ := MU.form hM2
  have hl2 := hS2.small.2 HZ.out
  have HB2 := Lib.hid (HB1.out.trans (hB2.mono HB1.out.size))
  have HV2 := Lib.hid (HV1.out.keep hB2)
  have HM2 := Lib.hid hM2
  have HS2 := Lib.hid hS2
  have HL2 := Lib.hid hl2
  have HLT := Lib.hid (World.block_lt_of_cell? _ _ HV1.out.b.c0)
  clear hM2 hS2 hB2 c0 c1 hl2
  have v0 := HV2.out.b.c0
  have v1 := HV2.out.b.c1
  have v2 := HV2.out.b.c2
  have v3 := HV2.out.b.c3
  have v4 := HV2.out.b.c4
  have v5 := HV2.out.b.c5
  have v6 := HV2.out.b.c6
  have f0 := HV2.out.f0
  have f1 := HV2.out.f1
  have f2 := HV2.out.f2
  have f3 := HV2.out.f3
  have f4 := HV2.out.f4
  have f5 := HV2.out.f5
  have f6 := HV2.out.f6
  go_wp2_with fail
  have z7 := put7_bx HV2.out.b (.int .i64 2) (.bool false) (.bool n2) (.slice p2 ws.length k2) (.int .u64 0) (.string ⟨#[]⟩) (.slice none 0 0)
  have zm := put7_mu HM2.out HLT.out (.int .i64 2) (.bool false) (.bool n2) (.slice p2 ws.length k2) (.int .u64 0) (.string ⟨#[]⟩) (.slice none 0 0)
  have zb := put7_below HB2.out (show w.heap.size ≤ w.heap.size + 1 by omega) (.int .i64 2) (.bool false) (.bool n2) (.slice p2 ws.length k2) (.int .u64 0) (.string ⟨#[]⟩) (.slice none 0 0)
  unfold put7 at z7 zm zb
  refine bodyPost_ret (v := .agg #[.int .i64 2, .bool false, .bool n2, .slice p2 ws.length k2, .int .u64 0, .string ⟨#[]⟩, .slice none 0 0]) (by simp [results, Tryz.results19, go_sem, z7.c0, z7.c1, z7.c2, z7.c3, z7.c4, z7.c5, z7.c6]) rfl ⟨n2, p2, k2, ws, rfl, zm.rd (by have := HL2.out; omega), HS2.out, HL2.out, zb⟩
set_option maxRecDepth 100000 in
set_option maxHeartbeats 4000000 in
theorem ints_ok (n : Bool) (p : Option Addr) (l c : Nat) (w : World) :
    Calls Tryz.prog 65 #[.agg #[.bool n, .slice p l c], .int .i64 0] w fun e w' => e = .returned (.tuple #[.agg #[.int .i64 2, .bool false, .bool n, .slice p l c, .int .u64 0, .string ⟨#[]⟩, .slice none 0 0], .int .i64 0]) ∧ Below w.heap.size w w' := by
  have HB := Lib.hid (show ∀ x : Obj, Below w.heap.size w ((w.alloc (.cells #[.bool n, .slice p l c] 24)).alloc x) from fun x => ((Below.refl _ _).alloc (Nat.le_refl _) _).alloc (by simp) _)
  go_enter Tryz.func65, Tryz.ntmps65
  go_wp2_with fail
  refine bodyPost_ret (v := .tuple #[.agg #[.int .i64 2, .bool false, .bool n, .slice p l c, .int .u64 0, .string ⟨#[]⟩, .slice none 0 0], .int .i64 0]) (by simp [results, Tryz.results65, go_sem]) rfl ⟨rfl, HB.out _⟩
end
section
open Go Go.ChangeShapes Go.WideShapes Go.ChangeAt Go.RowKit
set_option linter.unusedVariables false
set_option linter.unusedSimpArgs false
/-- An int, and no error. -/
def SumP (W : World) (B0 : Nat) (z : Int) (e : Ending) (w' : World) : Prop :=
  ∃ n p c ws, e = .returned (.tuple #[.agg #[.int .i64 2, .bool false, .bool n, .slice p (List.length ws) c, .int .u64 0, .string ⟨#[]⟩, .slice none 0 0], .int .i64 0]) ∧ MU w' B0 (.slice p ws.length c) ws ∧ Sgn B18 n ws z ∧ ws.length ≤ 30 ∧ Below W.heap.size W w'
set_option maxRecDepth 100000 in
set_option maxHeartbeats 4000000 in
theorem binWhole_add (n1 : Bool) (u1 : Value) (xs : List Int) (z1 : Int) (n2' : Bool) (u2 : Value) (ys : List Int) (z2 : Int) (w : World) (hr1 : Rd w u1 xs) (hr2 : Rd w u2 ys) (hs1 : Sgn B18 n1 xs z1) (hs2 : Sgn B18 n2' ys z2) (hl1 : xs.length ≤ 30) (hl2 : ys.length ≤ 30) (hz : Small (z1 + z2)) :
    Calls Tryz.prog 42 #[.int .i64 1, .agg #[.bool n1, u1], .agg #[.bool n2', u2]] w (SumP w w.heap.size (z1 + z2)) := by
  obtain ⟨pA, cA, rfl, hcA, hmA, hpA⟩ := rd_form hr1
  obtain ⟨pB, cB, rfl, hcB, hmB, hpB⟩ := rd_form hr2
  obtain ⟨W1, hW1⟩ : ∃ x, ((w.alloc (.cells #[.bool n1, .slice pA xs.length cA] 24)).alloc (.cells #[.bool n2', .slice pB ys.length cB] 24)).alloc (.cells #[.int .i64 0, .bool false, .bool false, .slice none 0 0, .int .u64 0, .string ⟨#[]⟩, .slice none 0 0] 28) = x := ⟨_, rfl⟩
  have HB1 := Lib.hid (show Below w.heap.size w W1 by rw [← hW1]; exact (((Below.refl _ _).alloc (Nat.le_refl _) _).alloc (by simp) _).alloc (by simp; omega) _)
  have HXA := Lib.hid (show Box2 W1 w.heap.size (.bool n1) (.slice pA xs.length cA) by rw [← hW1]; exact ((Box2.new _ _ _ _ rfl).alloc _).alloc _)
  have HXB := Lib.hid (show Box2 W1 (w.heap.size + 1) (.bool n2') (.slice pB ys.length cB) by rw [← hW1]; exact (Box2.new _ _ _ _ (by simp)).alloc _)
  have HV1 := Lib.hid (show Bw7 W1 (w.heap.size + 2) (.int .i64 0) (.bool false) (.bool false) (.slice none 0 0) (.int .u64 0) (.string ⟨#[]⟩) (.slice none 0 0) by rw [← hW1]; exact Bw7.new _ _ _ _ _ _ _ _ _ (by simp))
  have HLT := Lib.hid (World.block_lt_of_cell? _ _ HV1.out.b.c0)
  have HA := Lib.hid (add_good n1 _ xs z1 n2' _ ys z2 W1 (hr1.keep HB1.out) (hr2.keep HB1.out) hs1 hs2 hl1 hl2)
  have HZ := Lib.hid hz
  clear hr1 hr2 hs1 hs2 hl1 hl2 hz hpA hpB
  have a0 := HXA.out.c0
  have a1 := HXA.out.c1
  have d0 := HXB.out.c0
  have d1 := HXB.out.c1
  go_enter Tryz.func42, Tryz.ntmps42
  go_wp2_with fail
  (try rw [hW1])
  clear hW1
  refine HA.out.mono ?_
  rintro e w2 ⟨n2, u2, ws, er, rfl, hM2, hB2, hC2⟩
  have hC2' : ResCase (z1 + z2) n2 ws er := hC2
  obtain rfl := hC2'.er0 HZ.out
  have HS2 := Lib.hid hC2'.ok
  obtain ⟨p2, k2, rfl⟩ := MU.form hM2
  have HL2 := Lib.hid (HS2.out.small.2 HZ.out)
  have HB2 := Lib.hid (HB1.out.trans (hB2.mono HB1.out.size))
  have HV2 := Lib.hid (HV1.out.keep hB2)
  have HM2 := Lib.hid hM2
  clear hM2 hB2 hC2 hC2' a0 a1 d0 d1
  go_wp2_with fail
  refine (ints_ok n2 p2 ws.length k2 w2).mono ?_
  rintro e w3 ⟨rfl, hB3⟩
  have HB3 := Lib.hid (HB2.out.trans (hB3.mono HB2.out.size))
  have HV3 := Lib.hid (HV2.out.keep hB3)
  have HM3 := Lib.hid (HM2.out.keep hB3)
  clear hB3
  have vc0 := HV3.out.b.c0
  have vf0 := HV3.out.f0
  have vc1 := HV3.out.b.c1
  have vf1 := HV3.out.f1
  have vc2 := HV3.out.b.c2
  have vf2 := HV3.out.f2
  have vc3 := HV3.out.b.c3
  have vf3 := HV3.out.f3
  have vc4 := HV3.out.b.c4
  have vf4 := HV3.out.f4
  have vc5 := HV3.out.b.c5
  have vf5 := HV3.out.f5
  have vc6 := HV3.out.b.c6
  have vf6 := HV3.out.f6
  go_wp2_with fail
  have z7 := put7_bx HV3.out.b (.int .i64 2) (.bool false) (.bool n2) (.slice p2 ws.length k2) (.int .u64 0) (.string ⟨#[]⟩) (.slice none 0 0)
  have zm := put7_mu HM3.out HLT.out (.int .i64 2) (.bool false) (.bool n2) (.slice p2 ws.length k2) (.int .u64 0) (.string ⟨#[]⟩) (.slice none 0 0)
  have zb := put7_below HB3.out (show w.heap.size ≤ w.heap.size + 2 by omega) (.int .i64 2) (.bool false) (.bool n2) (.slice p2 ws.length k2) (.int .u64 0) (.string ⟨#[]⟩) (.slice none 0 0)
  unfold put7 at z7 zm zb
  refine bodyPost_ret (v := .tuple #[.agg #[.int .i64 2, .bool false, .bool n2, .slice p2 ws.length k2, .int .u64 0, .string ⟨#[]⟩, .slice none 0 0], .int .i64 0]) (by simp [results, Tryz.results42, go_sem, z7.c0, z7.c1, z7.c2, z7.c3, z7.c4, z7.c5, z7.c6]) rfl ⟨n2, p2, k2, ws, rfl, zm.low (by have := HB1.out.size; omega), HS2.out, HL2.out, zb⟩
end
end Go.Proofs.YtnfemojgecljiaaGreatDoor
