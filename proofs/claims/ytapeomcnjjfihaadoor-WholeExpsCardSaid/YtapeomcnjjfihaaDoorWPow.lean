/- Layer 2: whole.Pow. -/
import Derived.Test.YtapeomcnjjfihaaDoorWPower
import Derived.Test.YtapeomcnjjfihaaDoorWNeg
namespace Go.Proofs.YtapeomcnjjfihaaDoor
open Go.ChangeShapes Go.WideShapes Go.ChangeAt Go.RowKit
set_option linter.unusedVariables false
set_option linter.unusedSimpArgs false
def PowPost (W : World) (z1 z2 : Int) (e : Ending) (w' : World) : Prop :=
  ∃ neg u ws er, e = .returned (.tuple #[.agg #[.bool neg, u], .int .i64 er]) ∧ MU w' W.heap.size u ws ∧ Below W.heap.size W w' ∧
    ((z2 < 0 ∧ er = 1 ∧ neg = false ∧ ws = []) ∨ (0 ≤ z2 ∧ ResCase (z1 ^ z2.toNat) neg ws er))
theorem pow_sg (n : Bool) (k : Nat) : (sg n 1) ^ k = sg (n && decide (k % 2 = 1)) 1 := by
  induction k with
  | zero => cases n <;> rfl
  | succ k ih =>
    rw [Int.pow_succ, ih]
    rcases Nat.mod_two_eq_zero_or_one k with h | h
    · have h2 : (k + 1) % 2 = 1 := by omega
      cases n <;> simp [sg, h, h2]
    · have h2 : (k + 1) % 2 = 0 := by omega
      cases n <;> simp [sg, h, h2]
theorem pow_split (a n m q j : Nat) : a ^ ((n + m) * q + j) = (a ^ n * a ^ m) ^ q * a ^ j := by rw [Nat.pow_add, Nat.pow_mul, Nat.pow_add]
theorem pow_lo {a k : Nat} (ha : 2 ≤ a) (hk : 1794 ≤ k) : (10 ^ 90) ^ 6 ≤ a ^ k := by
  obtain ⟨j, hj⟩ : ∃ j, k = (200 + 99) * 6 + j := ⟨k - 1794, by omega⟩
  have e : a ^ k = (a ^ 200 * a ^ 99) ^ 6 * a ^ j := hj ▸ pow_split a 200 99 6 j
  have h0 : (10 : Nat) ^ 90 ≤ 2 ^ 200 * 2 ^ 99 := by decide
  have h1 : (10 : Nat) ^ 90 ≤ a ^ 200 * a ^ 99 := Nat.le_trans h0 (Nat.mul_le_mul (Nat.pow_le_pow_left ha 200) (Nat.pow_le_pow_left ha 99))
  have h2 := Nat.pow_le_pow_left h1 6
  have h3 : 1 ≤ a ^ j := Nat.pow_pos (by omega)
  rw [e]
  exact Nat.le_trans h2 (Nat.le_mul_of_pos_right _ h3)
theorem lim6 : ((10 : Int) ^ 90) ^ 6 = 10 ^ 540 := by rw [← Int.pow_mul]
theorem big_pow {z : Int} {k : Nat} (hz : 2 ≤ z.natAbs) (hk : 1794 ≤ k) : ¬ Small (z ^ k) := by
  intro h
  have h1 := h.lt
  rw [Int.natAbs_pow, ← lim6] at h1
  have h2 := Int.ofNat_le.2 (pow_lo hz hk)
  rw [Int.natCast_pow (10 ^ 90) 6, Int.natCast_pow 10 90] at h2
  exact absurd h1 (Int.not_lt.2 h2)
theorem small_one (n : Bool) : Small (sg n 1) := I64.small (by cases n <;> exact ⟨by decide, by decide⟩)
theorem abs_two {n : Bool} {xs : List Int} {z : Int} (h : Sgn B18 n xs z) (h0 : 0 < xs.length) (h1 : ¬ (xs.length = 1 ∧ xs.getD 0 0 = 1)) : 2 ≤ z.natAbs := by
  have ha := h.abs (by decide)
  have hp := h.canon.pos (by decide) h0
  by_cases hl : xs.length = 1
  · match xs, hl with
    | [d], _ =>
      have hd : d ≠ 1 := fun e => h1 ⟨rfl, by simpa using e⟩
      rw [val_one] at ha hp
      omega
  · have h2 := canon_lo (b := B18) (by decide) h.canon h0
    have h3 := pow_mono' (b := B18) (by decide) (show 1 ≤ xs.length - 1 by omega)
    rw [Int.pow_succ, Int.pow_zero, Int.one_mul] at h3
    have h4 : (1000000000000000000 : Int) ≤ val B18 xs := Int.le_trans h3 h2
    omega
theorem one_val {n : Bool} {xs : List Int} {z : Int} (h : Sgn B18 n xs z) (h1 : xs.length = 1) (h2 : xs.getD 0 0 = 1) : z = sg n 1 ∧ val B18 xs = 1 := by
  match xs, h1 with
  | [d], _ =>
    have hd : d = 1 := by simpa using h2
    subst hd
    exact ⟨by rw [h.eq, val_one], val_one _ _⟩
theorem low_digit {ys : List Int} {z : Int} (h : Sgn B18 false ys z) (h0 : 0 < ys.length) : 0 < z ∧ z % 2 = ys.getD 0 0 % 2 ∧ (ys.length = 1 → z = ys.getD 0 0) ∧ (1 < ys.length → 1000000000000000000 ≤ z) := by
  have hz : z = val B18 ys := by have := h.eq; simpa [sg] using this
  refine ⟨by rw [hz]; exact h.canon.pos (by decide) h0, ?_, fun h1 => ?_, fun h1 => ?_⟩
  · match ys, h0 with
    | d :: r, _ =>
      rw [hz]
      have : val B18 (d :: r) = d + B18 * val B18 r := rfl
      rw [this, B18]
      simp only [List.getD_cons_zero]
      generalize val B18 r = v
      omega
  · match ys, h1 with
    | [d], _ => rw [hz, val_one]; rfl
  · have h2 := canon_lo (b := B18) (by decide) h.canon h0
    have h3 := pow_mono' (b := B18) (by decide) (show 1 ≤ ys.length - 1 by omega)
    rw [Int.pow_succ, Int.pow_zero, Int.one_mul] at h3
    rw [hz]
    exact Int.le_trans h3 h2
set_option maxRecDepth 100000 in
set_option maxHeartbeats 8000000 in
theorem pow_good (n1 : Bool) (u1 : Value) (xs : List Int) (z1 : Int) (n2 : Bool) (u2 : Value) (ys : List Int) (z2 : Int) (w : World) (hr1 : Rd w u1 xs) (hr2 : Rd w u2 ys) (hs1 : Sgn B18 n1 xs z1) (hs2 : Sgn B18 n2 ys z2) (hl1 : xs.length ≤ 30) (hl2 : ys.length ≤ 30) :
    Calls Tryd.prog 42 #[.agg #[.bool n1, u1], .agg #[.bool n2, u2]] w (PowPost w z1 z2) := by
  have HR1 := Lib.hid hr1
  have HR2 := Lib.hid hr2
  obtain ⟨p1, c1, rfl, _, _, hp1⟩ := rd_form hr1
  obtain ⟨p2, c2, rfl, _, _, hp2⟩ := rd_form hr2
  have HP1 := Lib.hid hp1
  have HP2 := Lib.hid hp2
  have HS1 := Lib.hid hs1
  have HS2 := Lib.hid hs2
  clear hr1 hr2 hs1 hs2 hp1 hp2
  go_enter Tryd.func42, Tryd.ntmps42
  go_wp2_with fail
  generalize hw2 : World.alloc (World.alloc (World.alloc w _) _) _ = w2
  have hbx : Bx3 w2 w.heap.size n1 (.slice p1 xs.length c1) n2 (.slice p2 ys.length c2) := by
    rw [← hw2]
    exact ⟨alloc_cell (alloc_cell (by simp) _) _, alloc_cell (alloc_cell (by simp) _) _, alloc_cell (by simp) _, alloc_cell (by simp) _, third_cell _ _ _ _ _ 0, third_cell _ _ _ _ _ 1, third_fr _ _ _ _ _ 0, third_fr _ _ _ _ _ 1, by simp⟩
  have HB2 := Lib.hid (show Below w.heap.size w w2 by rw [← hw2]; exact (((Below.refl _ _).alloc (Nat.le_refl _) _).alloc (by simp) _).alloc (by simp; omega) _)
  clear hw2
  have HX2 := Lib.hid hbx
  have q0 := hbx.x0
  have q1 := hbx.x1
  have q2 := hbx.y0
  have q3 := hbx.y1
  refine (good_yes _ _ xs z1 w2 (HR1.out.keep HB2.out) HS1.out hl1).mono ?_
  rintro e w3 ⟨rfl, hb3⟩
  have HX3 := Lib.hid (HX2.out.keep hb3)
  have HB3 := Lib.hid (HB2.out.trans (hb3.mono HB2.out.size))
  have t0 := HX3.out.x0
  have t1 := HX3.out.x1
  have t2 := HX3.out.y0
  have t3 := HX3.out.y1
  clear q0 q1 q2 q3 hb3 hbx HX2 HB2
  go_wp2_with fail
  refine (good_yes _ _ ys z2 w3 (HR2.out.keep HB3.out) HS2.out hl2).mono ?_
  rintro e w4 ⟨rfl, hb4⟩
  have HX4 := Lib.hid (HX3.out.keep hb4)
  have HB4 := Lib.hid (HB3.out.trans (hb4.mono HB3.out.size))
  have s0 := HX4.out.x0
  have s1 := HX4.out.x1
  have s2 := HX4.out.y0
  have s3 := HX4.out.y1
  have r0 := HX4.out.r0
  have r1 := HX4.out.r1
  have f0 := HX4.out.f0
  have f1 := HX4.out.f1
  have hlt := HX4.out.lt
  clear t0 t1 t2 t3 hb4 HX3 HB3
  cases n2 with
  | true =>
    have HZ2 := Lib.hid (show z2 < 0 by have := HS2.out.neg_iff (by decide); simpa using this.symm)
    go_wp2_with fail
    have zz := two_setW (x0 := .bool false) (x1 := .slice none 0 0) r0 r1
    refine bodyPost_ret (v := .tuple #[.agg #[.bool false, .slice none 0 0], .int .i64 1]) (by simp [results, Tryd.results42, go_sem, zz.1, zz.2]) rfl ?_
    exact ⟨false, _, [], 1, rfl, Mine.nil _ _, (HB4.out.setCell (by simp; omega) _).setCell (by simp; omega) _, .inl ⟨HZ2.out, rfl, rfl, rfl⟩⟩
  | false =>
    have HZ0 := Lib.hid (show 0 ≤ z2 by have := HS2.out.neg_iff (by decide); simp at this; omega)
    by_cases hy0 : ys.length = 0
    · have hyt : ((ys.length : Int) == 0) = true := by simp; exact List.length_eq_zero_iff.1 hy0
      have hyz : (ys.length : Int) = 0 := by omega
      have HE := Lib.hid ((HS2.out.empty (by decide)).1 hy0)
      clear hyz
      have hy0' := Lib.hid hy0
      clear hy0
      go_wp2_with fail
      refine (of_int 1 w4 (by omega) (by omega)).mono ?_
      rintro e w5 ⟨neg, u, ws, rfl, hM, hS, hb5⟩
      obtain ⟨p, c, rfl⟩ := MU.form hM
      have HX5 := Lib.hid (HX4.out.keep hb5)
      have HB5 := Lib.hid (HB4.out.trans (hb5.mono HB4.out.size))
      have HM := Lib.hid hM
      have HS := Lib.hid hS
      clear hM hS hb5 s0 s1 s2 s3 r0 r1 f0 f1
      have r0 := HX5.out.r0
      have r1 := HX5.out.r1
      have f0 := HX5.out.f0
      have f1 := HX5.out.f1
      have hlt5 := HX5.out.lt
      go_wp2_with fail
      have zz := two_setW (x0 := .bool neg) (x1 := (.slice p ws.length c)) r0 r1
      refine bodyPost_ret (v := .tuple #[.agg #[.bool neg, (.slice p ws.length c)], .int .i64 0]) (by simp [results, Tryd.results42, go_sem, zz.1, zz.2]) rfl ?_
      exact ⟨neg, _, _, 0, rfl, (HM.out.set2 hlt _ _).low (by omega), (HB5.out.setCell (by simp; omega) _).setCell (by simp; omega) _, .inr ⟨HZ0.out, by rw [HE.out, show (0 : Int).toNat = 0 from rfl, Int.pow_zero]; exact .inl ⟨small_one false, rfl, HS.out⟩⟩⟩
    · have hyf : ((ys.length : Int) == 0) = false := by rw [beq_eq_false_iff_ne]; omega
      have hyn : ¬ (ys.length : Int) = 0 := by omega
      have hyp : 0 < ys.length := by omega
      have hypz : (0 : Int) < (ys.length : Int) := by omega
      obtain ⟨b2, o2, rfl, hcy⟩ := HP2.out hyp
      have HLD := Lib.hid (low_digit HS2.out hyp)
      have hc0 := below_cell HB4.out (hcy 0 hyp)
      have hb2lt : b2 < w.heap.size := World.block_lt_of_cell? w ⟨b2, _, none⟩ (hcy 0 hyp)
      have hyb := HS2.out.canon.1 0
      rw [B18] at hyb
      rw [Nat.add_zero] at hc0
      clear hcy
      have HLD' := HLD.out
      clear HLD
      generalize ys.getD 0 0 = y0 at hc0 hyb HLD'
      have HLD := Lib.hid HLD'
      clear HLD'
      by_cases hx0 : xs.length = 0
      · have hxt : ((xs.length : Int) == 0) = true := by simp; exact List.length_eq_zero_iff.1 hx0
        have HE := Lib.hid ((HS1.out.empty (by decide)).1 hx0)
        have HXX := Lib.hid hx0
        clear hx0
        go_wp2_with fail
        have zz := two_setW (x0 := .bool false) (x1 := (.slice none 0 0)) r0 r1
        refine bodyPost_ret (v := .tuple #[.agg #[.bool false, (.slice none 0 0)], .int .i64 0]) (by simp [results, Tryd.results42, go_sem, zz.1, zz.2]) rfl ?_
        exact ⟨false, _, _, 0, rfl, Mine.nil _ _, (HB4.out.setCell (by simp; omega) _).setCell (by simp; omega) _, .inr ⟨HZ0.out, by rw [HE.out, show z2.toNat = (z2.toNat - 1) + 1 by have := HLD.out.1; omega, Int.pow_succ, Int.mul_zero]; exact .inl ⟨I64.small ⟨by decide, by decide⟩, rfl, Sgn.zero (by decide)⟩⟩⟩
      · have hxf : ((xs.length : Int) == 0) = false := by rw [beq_eq_false_iff_ne]; omega
        have hxn : ¬ (xs.length : Int) = 0 := by omega
        have hxp : 0 < xs.length := by omega
        have hxpz : (0 : Int) < (xs.length : Int) := by omega
        obtain ⟨b1, o1, rfl, hcx⟩ := HP1.out hxp
        have hx0' := below_cell HB4.out (hcx 0 hxp)
        rw [Nat.add_zero] at hx0'
        clear hcx
        by_cases hone : xs.length = 1 ∧ xs.getD 0 0 = 1
        · have HOV := Lib.hid (one_val HS1.out hone.1 hone.2)
          obtain rfl : xs = [1] := by
            match xs, hone.1 with
            | [d], _ => have := hone.2; simp at this; rw [this]
          simp only [List.length_singleton, List.getD_cons_zero] at hx0' s1
          clear hone hx0 hxn hxp hxpz hxf
          have HCP := Lib.hid (fun neg => (show Calls Tryd.prog 54 #[.bool neg, .slice (some ⟨b1, o1, none⟩) 1 c1] w4 (CopiedPost w4 neg [1]) from copied_any neg _ [1] w4 (HR1.out.keep HB4.out)))
          cases n1 with
          | false =>
            go_wp2_with fail
            have hcp := HCP.out false
            refine hcp.mono ?_
            clear hcp
            rintro e w5 ⟨k, g, hk, hg, rfl, hL, hb5⟩
            obtain ⟨neg', p, ws', hv, hM, hS, hlk⟩ := made_sgn (B0 := w4.heap.size) false hk HS1.out.canon.1 hL hg
            rw [hv]
            have HX5 := Lib.hid (HX4.out.keep hb5)
            have HB5 := Lib.hid (HB4.out.trans (hb5.mono HB4.out.size))
            have HM := Lib.hid (hM w5 rfl)
            have HS := Lib.hid hS
            clear hv hM hS hlk hb5 hL hk s0 s1 s2 s3 r0 r1 f0 f1
            have r0 := HX5.out.r0
            have r1 := HX5.out.r1
            have f0 := HX5.out.f0
            have f1 := HX5.out.f1
            have hlt5 := HX5.out.lt
            go_wp2_with fail
            have zz := two_setW (x0 := .bool neg') (x1 := (.slice p k k)) r0 r1
            refine bodyPost_ret (v := .tuple #[.agg #[.bool neg', (.slice p k k)], .int .i64 0]) (by simp [results, Tryd.results42, go_sem, zz.1, zz.2]) rfl ?_
            exact ⟨neg', _, _, 0, rfl, (HM.out.set2 hlt _ _).low (by omega), (HB5.out.setCell (by simp; omega) _).setCell (by simp; omega) _, .inr ⟨HZ0.out, by have h := HOV.out.1; rw [h, pow_sg]; exact .inl ⟨small_one _, rfl, by have h2 := HS.out; rw [HOV.out.2] at h2; exact h2⟩⟩⟩
          | true =>
            cases hod : (y0 % 2 == 1) with
            | false =>
              have hod2 : ¬ y0 % 2 = 1 := by simpa using hod
              go_wp2_with fail
              have hcp := HCP.out false
              refine hcp.mono ?_
              clear hcp
              rintro e w5 ⟨k, g, hk, hg, rfl, hL, hb5⟩
              obtain ⟨neg', p, ws', hv, hM, hS, hlk⟩ := made_sgn (B0 := w4.heap.size) false hk HS1.out.canon.1 hL hg
              rw [hv]
              have HX5 := Lib.hid (HX4.out.keep hb5)
              have HB5 := Lib.hid (HB4.out.trans (hb5.mono HB4.out.size))
              have HM := Lib.hid (hM w5 rfl)
              have HS := Lib.hid hS
              have HOD := Lib.hid hod2
              clear hv hM hS hlk hb5 hL hk s0 s1 s2 s3 r0 r1 f0 f1
              have r0 := HX5.out.r0
              have r1 := HX5.out.r1
              have f0 := HX5.out.f0
              have f1 := HX5.out.f1
              have hlt5 := HX5.out.lt
              go_wp2_with fail
              have zz := two_setW (x0 := .bool neg') (x1 := (.slice p k k)) r0 r1
              refine bodyPost_ret (v := .tuple #[.agg #[.bool neg', (.slice p k k)], .int .i64 0]) (by simp [results, Tryd.results42, go_sem, zz.1, zz.2]) rfl ?_
              exact ⟨neg', _, _, 0, rfl, (HM.out.set2 hlt _ _).low (by omega), (HB5.out.setCell (by simp; omega) _).setCell (by simp; omega) _, .inr ⟨HZ0.out, by have h := HOV.out.1; have hp : decide (z2.toNat % 2 = 1) = false := by {have := HLD.out.2.1; have := HOD.out; have := HZ0.out; simp; omega}; rw [h, pow_sg, hp]; exact .inl ⟨small_one _, rfl, by have h2 := HS.out; rw [HOV.out.2] at h2; exact h2⟩⟩⟩
            | true =>
              have hod2 : y0 % 2 = 1 := by simpa using hod
              go_wp2_with fail
              have hcp := HCP.out true
              refine hcp.mono ?_
              clear hcp
              rintro e w5 ⟨k, g, hk, hg, rfl, hL, hb5⟩
              obtain ⟨neg', p, ws', hv, hM, hS, hlk⟩ := made_sgn (B0 := w4.heap.size) true hk HS1.out.canon.1 hL hg
              rw [hv]
              have HX5 := Lib.hid (HX4.out.keep hb5)
              have HB5 := Lib.hid (HB4.out.trans (hb5.mono HB4.out.size))
              have HM := Lib.hid (hM w5 rfl)
              have HS := Lib.hid hS
              have HOD := Lib.hid hod2
              clear hv hM hS hlk hb5 hL hk s0 s1 s2 s3 r0 r1 f0 f1
              have r0 := HX5.out.r0
              have r1 := HX5.out.r1
              have f0 := HX5.out.f0
              have f1 := HX5.out.f1
              have hlt5 := HX5.out.lt
              go_wp2_with fail
              have zz := two_setW (x0 := .bool neg') (x1 := (.slice p k k)) r0 r1
              refine bodyPost_ret (v := .tuple #[.agg #[.bool neg', (.slice p k k)], .int .i64 0]) (by simp [results, Tryd.results42, go_sem, zz.1, zz.2]) rfl ?_
              exact ⟨neg', _, _, 0, rfl, (HM.out.set2 hlt _ _).low (by omega), (HB5.out.setCell (by simp; omega) _).setCell (by simp; omega) _, .inr ⟨HZ0.out, by have h := HOV.out.1; have hp : decide (z2.toNat % 2 = 1) = true := by {have := HLD.out.2.1; have := HOD.out; have := HZ0.out; simp; omega}; rw [h, pow_sg, hp]; exact .inl ⟨small_one _, rfl, by have h2 := HS.out; rw [HOV.out.2] at h2; exact h2⟩⟩⟩
        · have HT := Lib.hid (abs_two HS1.out hxp hone)
          by_cases hxl : xs.length = 1
          · obtain ⟨d, rfl⟩ : ∃ d, xs = [d] := by
              match xs, hxl with
              | [d], _ => exact ⟨d, rfl⟩
            have hd1 : (d == 1) = false := by rw [beq_eq_false_iff_ne]; exact fun e => hone ⟨rfl, by simpa using e⟩
            have hd2 : ¬ d = 1 := by simpa using hd1
            simp only [List.length_singleton, List.getD_cons_zero] at hx0' s1
            clear hone hx0 hxn hxp hxpz hxf hxl
            by_cases hyl : 1 < ys.length
            · have hylz : (1 : Int) < (ys.length : Int) := by omega
              have HNS := Lib.hid (show ¬ Small (z1 ^ z2.toNat) from big_pow HT.out (by have := HLD.out.2.2.2 hyl; omega))
              go_wp2_with fail
              have zz := two_setW (x0 := .bool false) (x1 := (.slice none 0 0)) r0 r1
              refine bodyPost_ret (v := .tuple #[.agg #[.bool false, (.slice none 0 0)], .int .i64 7]) (by simp [results, Tryd.results42, go_sem, zz.1, zz.2]) rfl ?_
              exact ⟨false, _, _, 7, rfl, Mine.nil _ _, (HB4.out.setCell (by simp; omega) _).setCell (by simp; omega) _, .inr ⟨HZ0.out, .inr ⟨HNS.out, rfl, rfl, rfl⟩⟩⟩
            · have hylz : ¬ (1 : Int) < (ys.length : Int) := by omega
              have HZY := Lib.hid (HLD.out.2.2.1 (by omega))
              by_cases hbig : 1794 ≤ y0
              · have HNS := Lib.hid (show ¬ Small (z1 ^ z2.toNat) from big_pow HT.out (by have := HZY.out; omega))
                go_wp2_with fail
                have zz := two_setW (x0 := .bool false) (x1 := (.slice none 0 0)) r0 r1
                refine bodyPost_ret (v := .tuple #[.agg #[.bool false, (.slice none 0 0)], .int .i64 7]) (by simp [results, Tryd.results42, go_sem, zz.1, zz.2]) rfl ?_
                exact ⟨false, _, _, 7, rfl, Mine.nil _ _, (HB4.out.setCell (by simp; omega) _).setCell (by simp; omega) _, .inr ⟨HZ0.out, .inr ⟨HNS.out, rfl, rfl, rfl⟩⟩⟩
              · obtain ⟨Y, rfl⟩ := Int.eq_ofNat_of_zero_le hyb.1
                have hz0 := HLD.out.1
                have HPW := Lib.hid (fun (wx : World) (hx : Below w.heap.size w wx) => show Calls Tryd.prog 69 #[.agg #[.bool n1, .slice (some ⟨b1, o1, none⟩) 1 c1], .int .u64 (Y : Int)] wx (ResPost wx wx.heap.size (z1 ^ Y)) from power_any n1 _ [d] z1 Y wx (HR1.out.keep hx) HS1.out hl1 (by have := HT.out; omega) ⟨by have := HZY.out; omega, by omega⟩)
                have HZT := Lib.hid (show z2.toNat = Y by have := HZY.out; omega)
                clear hz0
                go_wp2_with fail
                go_region_held3 (fun w' => w'.cell? ⟨w.heap.size, 0, none⟩ = some (.bool n1) ∧ w'.cell? ⟨w.heap.size, 1, none⟩ = some (.slice (some ⟨b1, o1, none⟩) 1 c1) ∧ w'.cell? ⟨w.heap.size + 1, 1, none⟩ = some (.slice (some ⟨b2, o2, none⟩) ys.length c2) ∧ w'.cell? ⟨b2, o2, none⟩ = some (.int .u64 (Y : Int)))
                  ((repeat' apply And.intro) <;> (first | with_reducible assumption | with_reducible exact drew_cellA (by assumption) | with_reducible exact cell_set2 (by omega) (by assumption) _ _ | with_reducible exact cell_set2 (by omega) (drew_cellA (by assumption)) _ _))
                  ((go_at_call 69; (with_reducible refine (HPW.out _ (by first | exact HB4.out | exact HB4.out.drew)).mono ?_); rintro e w6 ⟨neg, u, ws, er, rfl, hM, hb6, hcase⟩; obtain ⟨p, c, rfl⟩ := MU.form hM; have hq6 : Below w4.heap.size w4 w6 := ⟨hb6.os, hb6.tape, hb6.output, hb6.size, hb6.block⟩; have HM6 := Lib.hid (Mine.low hM (show w4.heap.size ≤ _ from Nat.le_refl _)); have HC6 := Lib.hid hcase; have hx6 := HX4.out.keep hq6; have k60 := hx6.x0; have k61 := hx6.x1; (try simp only [List.length_singleton] at k61); have k62 := hx6.y1; have k63 := below_cell hq6 hc0; have m0 := hx6.r0; have m1 := hx6.r1; have mf0 := hx6.f0; have mf1 := hx6.f1; have HB6 := Lib.hid (HB4.out.trans (hq6.mono HB4.out.size)); have hlo2 : b2 < w4.heap.size := World.block_lt_of_cell? w4 ⟨b2, o2, none⟩ hc0; clear hM hcase hb6 hx6 hq6))
                go_wp2_with fail
                have zz := two_setW (x0 := .bool neg) (x1 := .slice p ws.length c) m0 m1
                refine bodyPost_ret (v := .tuple #[.agg #[.bool neg, .slice p ws.length c], .int .i64 er]) (by simp [results, Tryd.results42, go_sem, zz.1, zz.2]) rfl ?_
                exact ⟨neg, _, ws, er, rfl, (HM6.out.set2 hlt _ _).low (by omega), (HB6.out.setCell (by simp; omega) _).setCell (by simp; omega) _, .inr ⟨HZ0.out, by rw [HZT.out]; exact HC6.out⟩⟩
          · have hl1f : ((xs.length : Int) == 1) = false := by rw [beq_eq_false_iff_ne]; omega
            have hl1n : ¬ (xs.length : Int) = 1 := by omega
            by_cases hyl : 1 < ys.length
            · have hylz : (1 : Int) < (ys.length : Int) := by omega
              have HNS := Lib.hid (show ¬ Small (z1 ^ z2.toNat) from big_pow HT.out (by have := HLD.out.2.2.2 hyl; omega))
              go_wp2_with fail
              have zz := two_setW (x0 := .bool false) (x1 := (.slice none 0 0)) r0 r1
              refine bodyPost_ret (v := .tuple #[.agg #[.bool false, (.slice none 0 0)], .int .i64 7]) (by simp [results, Tryd.results42, go_sem, zz.1, zz.2]) rfl ?_
              exact ⟨false, _, _, 7, rfl, Mine.nil _ _, (HB4.out.setCell (by simp; omega) _).setCell (by simp; omega) _, .inr ⟨HZ0.out, .inr ⟨HNS.out, rfl, rfl, rfl⟩⟩⟩
            · have hylz : ¬ (1 : Int) < (ys.length : Int) := by omega
              have HZY := Lib.hid (HLD.out.2.2.1 (by omega))
              by_cases hbig : 1794 ≤ y0
              · have HNS := Lib.hid (show ¬ Small (z1 ^ z2.toNat) from big_pow HT.out (by have := HZY.out; omega))
                go_wp2_with fail
                have zz := two_setW (x0 := .bool false) (x1 := (.slice none 0 0)) r0 r1
                refine bodyPost_ret (v := .tuple #[.agg #[.bool false, (.slice none 0 0)], .int .i64 7]) (by simp [results, Tryd.results42, go_sem, zz.1, zz.2]) rfl ?_
                exact ⟨false, _, _, 7, rfl, Mine.nil _ _, (HB4.out.setCell (by simp; omega) _).setCell (by simp; omega) _, .inr ⟨HZ0.out, .inr ⟨HNS.out, rfl, rfl, rfl⟩⟩⟩
              · obtain ⟨Y, rfl⟩ := Int.eq_ofNat_of_zero_le hyb.1
                have hz0 := HLD.out.1
                have HPW := Lib.hid (fun (wx : World) (hx : Below w.heap.size w wx) => show Calls Tryd.prog 69 #[.agg #[.bool n1, .slice (some ⟨b1, o1, none⟩) xs.length c1], .int .u64 (Y : Int)] wx (ResPost wx wx.heap.size (z1 ^ Y)) from power_any n1 _ xs z1 Y wx (HR1.out.keep hx) HS1.out hl1 (by have := HT.out; omega) ⟨by have := HZY.out; omega, by omega⟩)
                have HZT := Lib.hid (show z2.toNat = Y by have := HZY.out; omega)
                clear hz0
                go_wp2_with fail
                go_region_held3 (fun w' => w'.cell? ⟨w.heap.size, 0, none⟩ = some (.bool n1) ∧ w'.cell? ⟨w.heap.size, 1, none⟩ = some (.slice (some ⟨b1, o1, none⟩) xs.length c1) ∧ w'.cell? ⟨w.heap.size + 1, 1, none⟩ = some (.slice (some ⟨b2, o2, none⟩) ys.length c2) ∧ w'.cell? ⟨b2, o2, none⟩ = some (.int .u64 (Y : Int)))
                  ((repeat' apply And.intro) <;> (first | with_reducible assumption | with_reducible exact drew_cellA (by assumption) | with_reducible exact cell_set2 (by omega) (by assumption) _ _ | with_reducible exact cell_set2 (by omega) (drew_cellA (by assumption)) _ _))
                  ((go_at_call 69; (with_reducible refine (HPW.out _ (by first | exact HB4.out | exact HB4.out.drew)).mono ?_); rintro e w6 ⟨neg, u, ws, er, rfl, hM, hb6, hcase⟩; obtain ⟨p, c, rfl⟩ := MU.form hM; have hq6 : Below w4.heap.size w4 w6 := ⟨hb6.os, hb6.tape, hb6.output, hb6.size, hb6.block⟩; have HM6 := Lib.hid (Mine.low hM (show w4.heap.size ≤ _ from Nat.le_refl _)); have HC6 := Lib.hid hcase; have hx6 := HX4.out.keep hq6; have k60 := hx6.x0; have k61 := hx6.x1; (try simp only [List.length_singleton] at k61); have k62 := hx6.y1; have k63 := below_cell hq6 hc0; have m0 := hx6.r0; have m1 := hx6.r1; have mf0 := hx6.f0; have mf1 := hx6.f1; have HB6 := Lib.hid (HB4.out.trans (hq6.mono HB4.out.size)); have hlo2 : b2 < w4.heap.size := World.block_lt_of_cell? w4 ⟨b2, o2, none⟩ hc0; clear hM hcase hb6 hx6 hq6))
                go_wp2_with fail
                have zz := two_setW (x0 := .bool neg) (x1 := .slice p ws.length c) m0 m1
                refine bodyPost_ret (v := .tuple #[.agg #[.bool neg, .slice p ws.length c], .int .i64 er]) (by simp [results, Tryd.results42, go_sem, zz.1, zz.2]) rfl ?_
                exact ⟨neg, _, ws, er, rfl, (HM6.out.set2 hlt _ _).low (by omega), (HB6.out.setCell (by simp; omega) _).setCell (by simp; omega) _, .inr ⟨HZ0.out, by rw [HZT.out]; exact HC6.out⟩⟩
end Go.Proofs.YtapeomcnjjfihaaDoor
