/- Layer 2: what the calls of WholeKeeps answer, at whatever input: a sign and a row of one's own that the input decides. -/
import Derived.Test.YticebchmafipiaaDoorWPow
import Derived.Test.YticebchmafipiaaDoorWSub
import Derived.Test.YticebchmafipiaaDoorWDivLong
namespace Go.Proofs.YticebchmafipiaaDoor
open Go.ChangeShapes Go.WideShapes Go.ChangeAt Go.RowKit
set_option linter.unusedVariables false
set_option linter.unusedSimpArgs false
theorem kquot_le {z1 z2 zq zr : Int} (h : z1 = zq * z2 + zr) (hr : (0 ≤ zr ∧ zr < z2) ∨ (z2 < zr ∧ zr ≤ 0)) : (0 ≤ z1 → zq ≤ z1 ∧ -z1 ≤ zq) ∧ (z1 < 0 → z1 ≤ zq ∧ zq ≤ -z1) := by
  rcases hr with ⟨h1, h2⟩ | ⟨h1, h2⟩
  · by_cases hp : 1 ≤ zq
    · have := Int.mul_le_mul_of_nonneg_left (show 1 ≤ z2 by omega) (show 0 ≤ zq by omega); omega
    · by_cases hz : zq = 0
      · subst hz; omega
      · have := Int.mul_le_mul_of_nonpos_left (show zq + 1 ≤ 0 by omega) (show 1 ≤ z2 by omega)
        rw [Int.add_mul, Int.one_mul, Int.mul_one] at this
        omega
  · by_cases hp : 1 ≤ zq
    · have := Int.mul_le_mul_of_nonneg_left (show z2 ≤ -1 by omega) (show 0 ≤ zq - 1 by omega)
      rw [Int.sub_mul, Int.one_mul] at this
      omega
    · by_cases hz : zq = 0
      · subst hz; omega
      · have := Int.mul_le_mul_of_nonpos_left (show zq + 1 ≤ 0 by omega) (show z2 ≤ -1 by omega)
        rw [Int.add_mul zq 1 z2, Int.one_mul] at this
        omega
theorem ksmall_le {a b : Int} (h : Small b) (h1 : 0 ≤ b → a ≤ b ∧ -b ≤ a) (h2 : b < 0 → b ≤ a ∧ a ≤ -b) : Small a := by
  refine ⟨Int.lt_of_le_of_lt ?_ h.lt⟩
  by_cases hb : 0 ≤ b
  · have := h1 hb; omega
  · have := h2 (by omega); omega
theorem kquot_len {n1 nq : Bool} {xs qs : List Int} {z1 z2 zq zr : Int} (h1 : Sgn B18 n1 xs z1) (hl : xs.length ≤ 30) (hq : Sgn B18 nq qs zq) (he : z1 = zq * z2 + zr) (hr : (0 ≤ zr ∧ zr < z2) ∨ (z2 < zr ∧ zr ≤ 0)) : qs.length ≤ 30 :=
  hq.small.2 (ksmall_le (h1.small.1 hl) (kquot_le he hr).1 (kquot_le he hr).2)
theorem krest_len {n2 nr : Bool} {ys rs : List Int} {z2 zr : Int} (h2 : Sgn B18 n2 ys z2) (hl : ys.length ≤ 30) (hr' : Sgn B18 nr rs zr) (hr : (0 ≤ zr ∧ zr < z2) ∨ (z2 < zr ∧ zr ≤ 0)) : rs.length ≤ 30 :=
  hr'.small.2 (ksmall_le (h2.small.1 hl) (by omega) (by omega))
set_option maxRecDepth 100000 in
set_option maxHeartbeats 1000000 in
theorem kpow_bad1 (n1 : Bool) (u1 : Value) (xs : List Int) (n2 : Bool) (u2 : Value) (ys : List Int) (w : World) (hr1 : Rd w u1 xs) (hf1 : Fit xs) (hr2 : Rd w u2 ys) (hg : goodB n1 xs = false) :
    Calls Tryd.prog 19 #[.agg #[.bool n1, u1], .agg #[.bool n2, u2]] w (BadPost w 3) := by
  have HR1 := Lib.hid hr1
  have HR2 := Lib.hid hr2
  obtain ⟨p1, c1, rfl, _, _, _⟩ := rd_form hr1
  obtain ⟨p2, c2, rfl, _, _, _⟩ := rd_form hr2
  have HGN := Lib.hid hg
  clear hr1 hr2 hg
  go_enter Tryd.func19, Tryd.ntmps19
  go_wp2_with fail
  generalize hw2 : World.alloc (World.alloc (World.alloc w _) _) _ = w2
  have hbx : Bx3 w2 w.heap.size n1 (.slice p1 xs.length c1) n2 (.slice p2 ys.length c2) := by
    rw [← hw2]
    exact ⟨alloc_cell (alloc_cell (by simp) _) _, alloc_cell (alloc_cell (by simp) _) _, alloc_cell (by simp) _, alloc_cell (by simp) _, third_cell _ _ _ _ _ 0, third_cell _ _ _ _ _ 1, third_fr _ _ _ _ _ 0, third_fr _ _ _ _ _ 1, by simp⟩
  have HB2 := Lib.hid (show Below w.heap.size w w2 by rw [← hw2]; exact (((Below.refl _ _).alloc (Nat.le_refl _) _).alloc (by simp) _).alloc (by simp; omega) _)
  clear hw2
  have HX2 := Lib.hid hbx
  have q0 := hbx.x0
  have q1 := hbx.x1
  have q2 := hbx.y0
  have q3 := hbx.y1
  refine (good_no _ _ xs w2 (HR1.out.keep HB2.out) hf1 HGN.out).mono ?_
  rintro e w3 ⟨rfl, hb3⟩
  have hX := HX2.out.keep hb3
  have HB := Lib.hid (HB2.out.trans (hb3.mono HB2.out.size))
  have r0 := hX.r0
  have r1 := hX.r1
  have f0 := hX.f0
  have f1 := hX.f1
  clear hX hb3
  clear q0 q1 q2 q3 hbx
  go_wp2_with fail
  have z2 := two_setW (x0 := .bool false) (x1 := .slice none 0 0) r0 r1
  refine bodyPost_ret (v := .tuple #[.agg #[.bool false, .slice none 0 0], .int .i64 3]) (by simp [results, Tryd.results19, go_sem, z2.1, z2.2]) rfl ⟨rfl, ?_⟩
  exact (HB.out.setCell (by simp; omega) _).setCell (by simp; omega) _
/-- The number z (or that it is too great), where g; else nothing. -/
def KQ (g : Bool) (z : Int) (n : Bool) (ws : List Int) (er : Int) : Prop := if g then ResCase z n ws er else n = false ∧ ws = [] ∧ er = 3
theorem KQ.uniq {g : Bool} {z : Int} {n n' : Bool} {ws ws' : List Int} {er er' : Int} (h : KQ g z n ws er) (h' : KQ g z n' ws' er') : n = n' ∧ ws = ws' ∧ er = er' := by
  unfold KQ at h h'
  cases g with
  | true => exact ResCase.uniq h h'
  | false => obtain ⟨rfl, rfl, rfl⟩ := h; obtain ⟨rfl, rfl, rfl⟩ := h'; exact ⟨rfl, rfl, rfl⟩
theorem KQ.len {g : Bool} {z : Int} {n : Bool} {ws : List Int} {er : Int} (h : KQ g z n ws er) : ws.length ≤ 30 := by
  unfold KQ at h
  cases g with
  | true => exact h.sgn.2
  | false => obtain ⟨rfl, rfl, rfl⟩ := h; simp
/-- An answer with an error. -/
def RA (W : World) (Q : Bool → List Int → Int → Prop) (e : Ending) (w' : World) : Prop :=
  ∃ n u ws er, e = .returned (.tuple #[.agg #[.bool n, u], .int .i64 er]) ∧ MU w' W.heap.size u ws ∧ Q n ws er ∧ Below W.heap.size W w'
theorem RA.res {W : World} {z : Int} {e : Ending} {w' : World} (h : ResPost W W.heap.size z e w') : RA W (KQ true z) e w' := by
  obtain ⟨n, u, ws, er, he, hm, hb, hc⟩ := h
  exact ⟨n, u, ws, er, he, hm, hc, hb⟩
theorem RA.bad {W : World} {z : Int} {e : Ending} {w' : World} (h : BadPost W 3 e w') : RA W (KQ false z) e w' :=
  ⟨false, _, [], 3, h.1, Mine.nil _ _, ⟨rfl, rfl, rfl⟩, h.2⟩
section
variable (n1 : Bool) (u1 : Value) (xs : List Int) (n2 : Bool) (u2 : Value) (ys : List Int) (w : World) (hr1 : Rd w u1 xs) (hf1 : Fit xs) (hr2 : Rd w u2 ys) (hf2 : Fit ys)
include hr1 hf1 hr2 hf2
theorem add_all : Calls Tryd.prog 14 #[.agg #[.bool n1, u1], .agg #[.bool n2, u2]] w (RA w (KQ (goodB n1 xs && goodB n2 ys) (sg n1 (val B18 xs) + sg n2 (val B18 ys)))) := by
  by_cases h1 : goodB n1 xs = true
  · have s1 := goodB_sgn h1 hf1
    by_cases h2 : goodB n2 ys = true
    · have s2 := goodB_sgn h2 hf2
      rw [h1, h2]
      exact (add_good n1 u1 xs _ n2 u2 ys _ w hr1 hr2 s1.1 s2.1 s1.2 s2.2).mono fun _ _ h => RA.res h
    · rw [Bool.not_eq_true] at h2
      rw [h1, h2]
      exact (add_bad2 n1 u1 xs n2 u2 ys w hr1 hf1 hr2 hf2 h1 h2).mono fun _ _ h => RA.bad h
  · rw [Bool.not_eq_true] at h1
    rw [h1]
    exact (add_bad1 n1 u1 xs n2 u2 ys w hr1 hf1 hr2 h1).mono fun _ _ h => RA.bad h
theorem sub_all : Calls Tryd.prog 15 #[.agg #[.bool n1, u1], .agg #[.bool n2, u2]] w (RA w (KQ (goodB n1 xs && goodB n2 ys) (sg n1 (val B18 xs) - sg n2 (val B18 ys)))) := by
  by_cases h1 : goodB n1 xs = true
  · have s1 := goodB_sgn h1 hf1
    by_cases h2 : goodB n2 ys = true
    · have s2 := goodB_sgn h2 hf2
      rw [h1, h2]
      exact (sub_good n1 u1 xs _ n2 u2 ys _ w hr1 hr2 s1.1 s2.1 s1.2 s2.2).mono fun _ _ h => RA.res h
    · rw [Bool.not_eq_true] at h2
      rw [h1, h2]
      exact (sub_bad2 n1 u1 xs n2 u2 ys w hr1 hf1 hr2 hf2 h1 h2).mono fun _ _ h => RA.bad h
  · rw [Bool.not_eq_true] at h1
    rw [h1]
    exact (sub_bad1 n1 u1 xs n2 u2 ys w hr1 hf1 hr2 h1).mono fun _ _ h => RA.bad h
theorem mul_all : Calls Tryd.prog 16 #[.agg #[.bool n1, u1], .agg #[.bool n2, u2]] w (RA w (KQ (goodB n1 xs && goodB n2 ys) (sg n1 (val B18 xs) * sg n2 (val B18 ys)))) := by
  by_cases h1 : goodB n1 xs = true
  · have s1 := goodB_sgn h1 hf1
    by_cases h2 : goodB n2 ys = true
    · have s2 := goodB_sgn h2 hf2
      rw [h1, h2]
      exact (mul_good n1 u1 xs _ n2 u2 ys _ w hr1 hr2 s1.1 s2.1 s1.2 s2.2).mono fun _ _ h => RA.res h
    · rw [Bool.not_eq_true] at h2
      rw [h1, h2]
      exact (mul_bad2 n1 u1 xs n2 u2 ys w hr1 hf1 hr2 hf2 h1 h2).mono fun _ _ h => RA.bad h
  · rw [Bool.not_eq_true] at h1
    rw [h1]
    exact (mul_bad1 n1 u1 xs n2 u2 ys w hr1 hf1 hr2 h1).mono fun _ _ h => RA.bad h
end
/-- The power by 1. -/
theorem pow_all (n1 : Bool) (u1 : Value) (xs : List Int) (n2 : Bool) (u2 : Value) (ys : List Int) (w : World) (hr1 : Rd w u1 xs) (hf1 : Fit xs) (hr2 : Rd w u2 ys) (hs : Sgn B18 n2 ys 1) :
    Calls Tryd.prog 19 #[.agg #[.bool n1, u1], .agg #[.bool n2, u2]] w (RA w (KQ (goodB n1 xs) (sg n1 (val B18 xs)))) := by
  by_cases h1 : goodB n1 xs = true
  · have s1 := goodB_sgn h1 hf1
    rw [h1]
    refine (pow_good n1 u1 xs _ n2 u2 ys _ w hr1 hr2 s1.1 hs s1.2 (hs.small.2 (small_one false))).mono fun e w' h => ?_
    obtain ⟨n, u, ws, er, he, hm, hb, ⟨hz, _⟩ | ⟨_, hc⟩⟩ := h
    · omega
    · rw [show (1 : Int).toNat = 1 from rfl, Int.pow_one] at hc
      exact ⟨n, u, ws, er, he, hm, hc, hb⟩
  · rw [Bool.not_eq_true] at h1
    rw [h1]
    exact (kpow_bad1 n1 u1 xs n2 u2 ys w hr1 hf1 hr2 h1).mono fun _ _ h => RA.bad h
/-- An answer without an error. -/
def RN (W : World) (Q : Bool → List Int → Int → Prop) (e : Ending) (w' : World) : Prop :=
  ∃ n u ws er, e = .returned (.agg #[.bool n, u]) ∧ MU w' W.heap.size u ws ∧ Q n ws er ∧ Below W.heap.size W w'
theorem neg_all (n1 : Bool) (u1 : Value) (xs : List Int) (w : World) (hr1 : Rd w u1 xs) (hf1 : Fit xs) :
    Calls Tryd.prog 18 #[.agg #[.bool n1, u1]] w (RN w (KQ (goodB n1 xs) (-(sg n1 (val B18 xs))))) := by
  by_cases h1 : goodB n1 xs = true
  · have s1 := goodB_sgn h1 hf1
    rw [h1]
    refine (neg_good n1 u1 xs _ w hr1 s1.1 s1.2).mono fun e w' h => ?_
    obtain ⟨n, u, ws, he, hm, hs, hb⟩ := h
    refine ⟨n, u, ws, 0, he, hm, .inl ⟨⟨?_⟩, rfl, hs⟩, hb⟩
    rw [Int.natAbs_neg]
    exact (s1.1.small.1 s1.2).lt
  · rw [Bool.not_eq_true] at h1
    rw [h1]
    exact (neg_bad n1 u1 xs w hr1 hf1 h1).mono fun _ _ h => ⟨false, _, [], 3, h.1, Mine.nil _ _, ⟨rfl, rfl, rfl⟩, h.2⟩
/-- Quotient and rest of z1 by z2. -/
def DQ (g : Bool) (z1 z2 : Int) (nq : Bool) (qs : List Int) (nr : Bool) (rs : List Int) : Prop :=
  if g then ∃ zq zr, Sgn B18 nq qs zq ∧ Sgn B18 nr rs zr ∧ z1 = zq * z2 + zr ∧ ((0 ≤ zr ∧ zr < z2) ∨ (z2 < zr ∧ zr ≤ 0)) else nq = false ∧ qs = [] ∧ nr = false ∧ rs = []
def RD (W : World) (Q : Bool → List Int → Bool → List Int → Prop) (e : Ending) (w' : World) : Prop :=
  ∃ M nq uq qs nr ur rs er, e = .returned (.tuple #[.agg #[.bool nq, uq], .agg #[.bool nr, ur], .int .i64 er]) ∧ MR w' W.heap.size M uq qs ∧ MU w' M ur rs ∧ W.heap.size ≤ M ∧ Q nq qs nr rs ∧ qs.length ≤ 30 ∧ rs.length ≤ 30 ∧ Below W.heap.size W w'
theorem kdiv_uniq {z2 q r q' r' : Int} (h : q * z2 + r = q' * z2 + r') (h1 : (0 ≤ r ∧ r < z2) ∨ (z2 < r ∧ r ≤ 0)) (h2 : (0 ≤ r' ∧ r' < z2) ∨ (z2 < r' ∧ r' ≤ 0)) : q = q' ∧ r = r' := by
  have e : (q - q') * z2 = r' - r := by rw [Int.sub_mul]; omega
  have hq : q - q' = 0 := by
    by_cases a : 1 ≤ q - q'
    · by_cases hz : 0 < z2
      · have := Int.mul_le_mul_of_nonneg_right a (show 0 ≤ z2 by omega); omega
      · have := Int.mul_le_mul_of_nonpos_right a (show z2 ≤ 0 by omega); omega
    · by_cases b : q - q' ≤ -1
      · by_cases hz : 0 < z2
        · have := Int.mul_le_mul_of_nonneg_right b (show 0 ≤ z2 by omega); omega
        · have := Int.mul_le_mul_of_nonpos_right b (show z2 ≤ 0 by omega); omega
      · omega
  rw [hq, Int.zero_mul] at e
  omega
theorem DQ.uniq {g : Bool} {z1 z2 : Int} {nq nq' : Bool} {qs qs' : List Int} {nr nr' : Bool} {rs rs' : List Int} (h : DQ g z1 z2 nq qs nr rs) (h' : DQ g z1 z2 nq' qs' nr' rs') : (nq = nq' ∧ qs = qs') ∧ nr = nr' ∧ rs = rs' := by
  unfold DQ at h h'
  cases g with
  | true =>
    obtain ⟨zq, zr, a, b, c, d⟩ := h
    obtain ⟨zq', zr', a', b', c', d'⟩ := h'
    obtain ⟨rfl, rfl⟩ := kdiv_uniq (c.symm.trans c') d d'
    exact ⟨a.uniq (by decide) a', b.uniq (by decide) b'⟩
  | false =>
    obtain ⟨rfl, rfl, rfl, rfl⟩ := h
    obtain ⟨rfl, rfl, rfl, rfl⟩ := h'
    exact ⟨⟨rfl, rfl⟩, rfl, rfl⟩
theorem RD.bad {W : World} {z1 z2 er : Int} {e : Ending} {w' : World} (h : BadPost2 W er e w') : RD W (DQ false z1 z2) e w' :=
  ⟨W.heap.size, false, _, [], false, _, [], er, h.1, .inl ⟨rfl, rfl⟩, Mine.nil _ _, Nat.le_refl _, ⟨rfl, rfl, rfl, rfl⟩, by simp, by simp, h.2⟩
theorem div_all (n1 : Bool) (u1 : Value) (xs : List Int) (n2 : Bool) (u2 : Value) (ys : List Int) (w : World) (hr1 : Rd w u1 xs) (hf1 : Fit xs) (hr2 : Rd w u2 ys) (hf2 : Fit ys) :
    Calls Tryd.prog 17 #[.agg #[.bool n1, u1], .agg #[.bool n2, u2]] w (RD w (DQ (goodB n1 xs && (goodB n2 ys && decide (0 < ys.length))) (sg n1 (val B18 xs)) (sg n2 (val B18 ys)))) := by
  by_cases h1 : goodB n1 xs = true
  · have s1 := goodB_sgn h1 hf1
    by_cases h2 : goodB n2 ys = true
    · have s2 := goodB_sgn h2 hf2
      by_cases h3 : 0 < ys.length
      · rw [h1, h2, decide_eq_true h3]
        refine (div_good2 n1 u1 xs _ n2 u2 ys _ w hr1 hr2 s1.1 s2.1 s1.2 s2.2 h3).mono fun e w' h => ?_
        obtain ⟨M, nq, uq, qs, zq, nr, ur, rs, zr, a1, a2, a3, a4, a5, a6, a7, a8, a9⟩ := h
        exact ⟨M, nq, uq, qs, nr, ur, rs, 0, a1, a2, a3, a4, ⟨zq, zr, a5, a6, a7, a8⟩, kquot_len s1.1 s1.2 a5 a7 a8, krest_len s2.1 s2.2 a6 a8, a9⟩
      · rw [h1, h2, decide_eq_false h3]
        exact (div_zero n1 u1 xs n2 u2 ys w hr1 hf1 hr2 hf2 h1 h2 (List.length_eq_zero_iff.1 (by omega))).mono fun _ _ h => RD.bad h
    · rw [Bool.not_eq_true] at h2
      rw [h1, h2]
      exact (div_bad2 n1 u1 xs n2 u2 ys w hr1 hf1 hr2 hf2 h1 h2).mono fun _ _ h => RD.bad h
  · rw [Bool.not_eq_true] at h1
    rw [h1]
    exact (div_bad1 n1 u1 xs n2 u2 ys w hr1 hf1 hr2 hf2 h1).mono fun _ _ h => RD.bad h
end Go.Proofs.YticebchmafipiaaDoor
