/- The hash of a float: the document's. Layer 2, the document's answer: screeref02.Good. The hash of a whole number: the program's and the document's. Layer 3: what is equal has one hash, plainly. -/
import Derived.Test.YtmfckhhmalogdaaGreatDoorPGRlG
import Derived.Test.YtmfckhhmalogdaaGreatDoorPGWa
import Derived.Test.YtmfckhhmalogdaaGreatDoorPGWf
import Derived.Test.YtmfckhhmalogdaaGreatDoorPGRlW
namespace Go.Proofs.YtmfckhhmalogdaaGreatDoor
section
open Go Go.ChangeShapes Go.WideShapes Go.RowKit
set_option linter.unusedVariables false
set_option linter.unusedSimpArgs false
theorem db_back {M p k d : Nat} (h : d = db M (p - (k + 1))) (hk : k + 1 ≤ p) : d * 2 % 2147483647 = db M (p - k) := by
  rw [h, ← db_step, show p - (k + 1) + 1 = p - k by omega]
theorem u64_mul2 (d : Nat) : Value.int IntKind.u64 ((d : Int) * 2 % 2147483647) = Value.int IntKind.u64 ((d * 2 % 2147483647 : Nat) : Int) := by
  congr 1
end
section
open Go.ChangeShapes Go.WideShapes Go.ChangeAt Go.RowKit
set_option linter.unusedVariables false
set_option linter.unusedSimpArgs false
end
section
open Go Go.ChangeShapes Go.WideShapes Go.RowKit
set_option linter.unusedVariables false
set_option linter.unusedSimpArgs false
/-- The whole number's hash. -/
def hbV (n1 : Bool) (xs : List Int) : Int := if goodB n1 xs = true then (if n1 = true then -(hh B18 xs 0) else hh B18 xs 0) else 0
structure HStep (H D H' : Int) : Prop where
  eq : (H * 1126526311 + D % 2147483647).tmod 2147483647 = H'
  lo : 0 ≤ H'
  hi : H' < 2147483647
theorem hstep {xs : List Int} {k : Nat} (hk : k < xs.length) : HStep (hh B18 xs (k + 1)) (xs.getD k 0) (hh B18 xs k) := by
  have h1 := hh_lo B18 xs (k + 1)
  have h2 := hh_lo B18 xs k
  refine ⟨?_, h2.1, h2.2⟩
  rw [Int.tmod_eq_emod_of_nonneg (by omega), ← hh_step B18 1126526311 (by decide) xs hk]
set_option maxRecDepth 100000 in
theorem hashBig_any (n1 : Bool) (u1 : Value) (xs : List Int) (w : World) (hr1 : Rd w u1 xs) (hf1 : Fit xs) :
    Calls Tryz.prog 8 #[.agg #[.bool n1, u1]] w fun e w' => e = .returned (.int .i64 (hbV n1 xs)) ∧ Below w.heap.size w w' := by
  have HV := Lib.hid (show hbV n1 xs = if goodB n1 xs = true then (if n1 = true then -(hh B18 xs 0) else hh B18 xs 0) else 0 from rfl)
  obtain ⟨p, c, rfl, hc, hm, hp⟩ := rd_form hr1
  have hb1 : Below w.heap.size w (w.alloc (.cells #[.bool n1, .slice p xs.length c] 25)) := (Below.refl _ _).alloc (Nat.le_refl _) _
  have HG := Lib.hid (good_any n1 _ xs (w.alloc (.cells #[.bool n1, .slice p xs.length c] 25)) (hr1.keep hb1) hf1)
  have hk0 : (w.alloc (.cells #[.bool n1, .slice p xs.length c] 25)).cell? ⟨w.heap.size, 0, none⟩ = some (.bool n1) := by simp
  have hk1 : (w.alloc (.cells #[.bool n1, .slice p xs.length c] 25)).cell? ⟨w.heap.size, 1, none⟩ = some (.slice p xs.length c) := by simp
  have HB1 := Lib.hid hb1
  have HP := Lib.hid hp
  have HF := Lib.hid hf1
  obtain ⟨W1, hW1⟩ : ∃ x, w.alloc (.cells #[.bool n1, .slice p xs.length c] 25) = x := ⟨_, rfl⟩
  rw [hW1] at hk0 hk1 HB1 HG
  obtain ⟨g, hg⟩ : ∃ g, goodB n1 xs = g := ⟨_, rfl⟩
  rw [hg] at HG HV
  clear hr1 hf1 hb1 hp hg
  cases g
  · simp only [Bool.false_eq_true, if_false] at HV
    go_enter Tryz.func8, Tryz.ntmps8
    go_wp2_with (first
      | (go_at_call 14; refine HG.out.mono ?_; rintro e w2 ⟨rfl, hb⟩; have HB2 := Lib.hid (HB1.out.trans (hb.mono HB1.out.size)); clear hb HG)
      | fail)
    go_ret
    exact ⟨by rw [HV.out]; rfl, HB2.out⟩
  · simp only [if_true] at HV
    have HK0 := Lib.hid hk0
    have HK1 := Lib.hid hk1
    go_enter Tryz.func8, Tryz.ntmps8
    go_wp2_with (first
      | (go_at_call 14; refine HG.out.mono ?_; rintro e w2 ⟨rfl, hb⟩; have HB2 := Lib.hid (HB1.out.trans (hb.mono HB1.out.size)); have j0 := below_cell hb HK0.out; have j1 := below_cell hb HK1.out; clear hb HG hk0 hk1 hW1)
      | fail)
    go_loopw [3, 11] (fun s3 s11 wr => ∃ (i : Nat) (H : Int), s11 = .int .i64 i ∧ s3 = .int .i64 H ∧ i ≤ xs.length ∧ H = hh B18 xs (xs.length - i) ∧ w2 = wr) (fun s3 s11 wr => xs.length - (RowKit.intOf s11).toNat)
    case atStart => exact ⟨0, 0, rfl, rfl, by omega, by rw [Nat.sub_zero, hh_end B18 xs (Nat.le_refl _)], rfl⟩
    case round =>
      obtain ⟨i, H, rfl, rfl, hi, hH, rfl⟩ := hrel
      have HH := Lib.hid hH
      have hl := hh_lo B18 xs (xs.length - i)
      rw [← hH] at hl
      clear hH
      by_cases hlt : i < xs.length
      · obtain ⟨k, hk⟩ : ∃ k, xs.length = k + 1 + i := ⟨xs.length - 1 - i, by omega⟩
        obtain ⟨b, off, rfl, hcell⟩ := HP.out (by omega)
        have hcx := below_cell HB2.out (hcell k (by omega))
        have hst := hstep (xs := xs) (k := k) (by omega)
        have hfx := HF.out k
        have HN := Lib.hid (show hh B18 xs k = hh B18 xs (xs.length - (i + 1)) by rw [hk]; congr 1; omega)
        rw [show k + 1 = xs.length - i by omega, ← HH.out] at hst
        have hki : (xs.length : Int) - 1 - (i : Int) = (k : Int) := by omega
        have hlz : (i : Int) < (xs.length : Int) := by omega
        obtain ⟨eq, lo, hi2⟩ := hst
        obtain ⟨H', hH'⟩ : ∃ H', hh B18 xs k = H' := ⟨_, rfl⟩
        rw [hH'] at eq lo hi2 HN
        obtain ⟨D, hD⟩ : ∃ D, xs.getD k 0 = D := ⟨_, rfl⟩
        rw [hD] at eq hcx hfx
        clear hcell hH' hD
        go_wp2_with fail
        exact ⟨⟨i + 1, H', by go_num, rfl, by omega, HN.out, trivial⟩, by simp [RowKit.intOf]; omega⟩
      · obtain rfl : i = xs.length := by omega
        have HE := Lib.hid (show H = hh B18 xs 0 by rw [HH.out, Nat.sub_self])
        cases n1
        · simp only [Bool.false_eq_true, if_false] at HV
          go_wp2_with fail
          go_ret
          exact ⟨by rw [HV.out, ← HE.out]; rfl, HB2.out⟩
        · simp only [if_true] at HV
          go_wp2_with fail
          go_ret
          exact ⟨by rw [HV.out, ← HE.out]; rfl, HB2.out⟩
structure DStep (H D H' : Int) : Prop where
  eq : (10 * H + D).tmod 2147483647 = H'
  lo : 0 ≤ H'
  hi : H' < 2147483647
theorem dstep {ds : List Int} {k : Nat} (hk : k < ds.length) (hd : 0 ≤ ds.getD k 0) : DStep (hh 10 ds (k + 1)) (ds.getD k 0) (hh 10 ds k) := by
  have h1 := hh_lo 10 ds (k + 1)
  have h2 := hh_lo 10 ds k
  refine ⟨?_, h2.1, h2.2⟩
  rw [Int.tmod_eq_emod_of_nonneg (by omega), ← hh_step10 ds hk]
end
section
open Go Go.ChangeShapes Go.WideShapes Go.ChangeAt Go.RowKit
set_option linter.unusedVariables false
set_option linter.unusedSimpArgs false
/-- A float beside a number. -/
def cbW (a : Nat) (z : Int) : Int := if nanB a = true then 0 else if infB a = true then (if negB a = true then -1 else 1) else cbZ a z
theorem cb_good {a : Nat} {n : Bool} {ws : List Int} {z : Int} (h : Sgn B18 n ws z) (hl : ws.length ≤ 30) : cbV a n ws = cbW a z ∧ cbB a n ws = !nanB a := by
  have h1 := goodB_of h hl
  have h2 : sg n (val B18 ws) = z := h.eq.symm
  unfold cbV cbB cbW
  rw [h1, h2]
  simp
/-- A whole number's hash. -/
def hzZ (z : Int) : Int := if z < 0 then -((z.natAbs : Int) % 2147483647) else (z.natAbs : Int) % 2147483647
theorem hb_z {n : Bool} {ws : List Int} {z : Int} (h : Sgn B18 n ws z) (hl : ws.length ≤ 30) : hbV n ws = hzZ z := by
  have h1 := goodB_of h hl
  have h2 := h.abs (by decide)
  have h3 := h.neg_iff (by decide)
  unfold hbV hzZ hh
  rw [if_pos h1, List.drop_zero, h2, h3]
  by_cases hz : z < 0
  · rw [if_pos hz, decide_eq_true hz, if_pos rfl]
  · rw [if_neg hz, decide_eq_false hz, if_neg (by decide)]
theorem pow31 (t : Nat) : 2 ^ (31 * t) % 2147483647 = 1 := by
  rw [Nat.pow_mul, Nat.pow_mod, show (2 ^ 31 % 2147483647 : Nat) = 1 by decide, Nat.one_pow]
theorem mul31 (a t : Nat) : a * 2 ^ (31 * t) % 2147483647 = a % 2147483647 := by
  rw [Nat.mul_mod, pow31, Nat.mul_one, Nat.mod_mod]
/-- A float that is a whole number has its hash. -/
theorem hs_tr {b : Nat} (hl : lostB b = false) : hsB b = trV b % 2147483647 := by
  have e0 : hsB b = manB b * 2 ^ pwB b % 2147483647 := by unfold hsB db; rw [Nat.mul_mod, Nat.mod_mod, ← Nat.mul_mod]
  rw [e0]
  by_cases h : 0 ≤ exqB b
  · rw [tr_up b h]
    obtain ⟨t, ht⟩ : ∃ t, (exqB b).toNat = pwB b + 31 * t := ⟨(exqB b).toNat / 31, by unfold pwB; omega⟩
    rw [ht, Nat.pow_add, ← Nat.mul_assoc, mul31]
  · have hx : exqB b < 0 := by omega
    rw [lost_down b hx] at hl
    have hm : manB b % 2 ^ (-exqB b).toNat = 0 := by simpa using hl
    rw [tr_down b hx]
    have hd := Nat.div_add_mod (manB b) (2 ^ (-exqB b).toNat)
    rw [hm, Nat.add_zero] at hd
    obtain ⟨t, ht⟩ : ∃ t, (-exqB b).toNat + pwB b = 31 * t := ⟨((-exqB b).toNat + pwB b) / 31, by unfold pwB; omega⟩
    generalize hq : manB b / 2 ^ (-exqB b).toNat = q at hd ⊢
    rw [← hd, Nat.mul_comm (2 ^ (-exqB b).toNat) q, Nat.mul_assoc, ← Nat.pow_add, ht, mul31]
theorem tr_abs (b : Nat) : (trZ b).natAbs = trV b := by unfold trZ; split <;> omega
/-- A float that equals a whole number has its hash, and its truth. -/
theorem hash_tr {b : Nat} (hn : nanB b = false) (hi : infB b = false) (hl : lostB b = false) : hashV b = hzZ (trZ b) := by
  have h1 := hs_tr hl
  unfold hashV hzZ
  rw [hn, hi, if_neg (by decide), if_neg (by decide), tr_abs, h1]
  unfold trZ
  cases hg : negB b
  · simp only [Bool.false_eq_true, if_false]
    rw [if_neg (by omega)]; omega
  · simp only [if_true]
    by_cases h0 : trV b = 0
    · rw [h0]; decide
    · rw [if_pos (by omega)]; omega
theorem zero_tr {b : Nat} (hl : lostB b = false) : zeroB b = decide (trZ b = 0) := by
  have hm : magV (b % fSG) = trV b * 2 ^ eK := by unfold lostB at hl; simpa using hl
  unfold zeroB
  rw [decide_eq_decide]
  constructor
  · intro h
    rw [h] at hm
    have h0 : magV 0 = 0 := rfl
    rw [h0] at hm
    have hp := Nat.two_pow_pos eK
    have ht : trV b = 0 := by
      rcases Nat.mul_eq_zero.1 hm.symm with h | h
      · exact h
      · omega
    have := tr_abs b
    omega
  · intro h
    have ha := tr_abs b
    have ht : trV b = 0 := by omega
    rw [ht, Nat.zero_mul] at hm
    by_cases hz : b % fSG = 0
    · exact hz
    · exfalso
      unfold magV at hm
      split at hm
      · omega
      · have hp := Nat.two_pow_pos (b % fSG / 4503599627370496 - 1)
        rcases Nat.mul_eq_zero.1 hm with h | h <;> omega
/-- A float beside a number: equal. -/
theorem cb_zero {a : Nat} {z : Int} (hn : nanB a = false) (h : cbW a z = 0) : hashV a = hzZ z ∧ zeroB a = decide (z = 0) := by
  unfold cbW at h
  rw [hn, if_neg (by decide)] at h
  cases hi : infB a
  · rw [hi, if_neg (by decide)] at h
    unfold cbZ at h
    have hc : cmpI (trZ a) z = 0 := by
      by_cases hc : cmpI (trZ a) z = 0
      · exact hc
      · rw [if_pos hc] at h; exact absurd h hc
    rw [if_neg (by simp [hc])] at h
    have hl : lostB a = false := by
      cases hl : lostB a
      · rfl
      · rw [hl, if_pos rfl] at h
        split at h <;> cases h
    have hz : trZ a = z := by
      unfold cmpI at hc
      split at hc
      · cases hc
      · split at hc
        · cases hc
        · omega
    rw [← hz]
    exact ⟨hash_tr hn hi hl, zero_tr hl⟩
  · rw [hi, if_pos rfl] at h
    split at h <;> cases h
/-- Two floats: equal. -/
theorem cm_zero {a b : Nat} (ha : a < 18446744073709551616) (hb : b < 18446744073709551616) (hok : cmB a b = true) (h : cmV a b = 0) : hashV a = hashV b ∧ zeroB a = zeroB b := by
  have hn : nanB a = false ∧ nanB b = false := by
    unfold cmB at hok
    cases h1 : nanB a <;> cases h2 : nanB b <;> simp_all
  unfold cmV at h
  rw [if_neg (by rw [hn.1, hn.2]; decide)] at h
  rcases (cmpZ_zero ha hb).1 h with rfl | ⟨h1, h2⟩
  · exact ⟨rfl, rfl⟩
  · have key : ∀ x, nanB x = false → x % fSG = 0 → hashV x = 0 ∧ zeroB x = true := by
      intro x hx h0
      have hz : zeroB x = true := by unfold zeroB; rw [h0]; rfl
      have hi : infB x = false := by unfold infB; rw [h0]; rfl
      have hm : magV (x % fSG) = 0 := by rw [h0]; rfl
      have ht : trV x = 0 := by unfold trV; rw [hm]; exact Nat.zero_div _
      have hl : lostB x = false := by
        unfold lostB
        rw [hm, ht, Nat.zero_mul]; rfl
      have e := hash_tr hx hi hl
      have hz2 : trZ x = 0 := by unfold trZ; rw [ht]; split <;> rfl
      rw [hz2] at e
      exact ⟨e, hz⟩
    obtain ⟨e1, e2⟩ := key a hn.1 h1
    obtain ⟨e3, e4⟩ := key b hn.2 h2
    exact ⟨e1.trans e3.symm, e2.trans e4.symm⟩
/-- A float that equals a whole number has its hash. -/
theorem agree_big {a : Nat} {neg : Bool} {xs : List Int} (hf : Fit xs) (hB : cbB a neg xs = true) (hV : cbV a neg xs = 0) : hashV a = hbV neg xs := by
  have h1 : nanB a = false ∧ goodB neg xs = true := by
    unfold cbB at hB
    cases h1 : nanB a <;> cases h2 : goodB neg xs <;> simp_all
  obtain ⟨hs, hl⟩ := goodB_sgn h1.2 hf
  rw [(cb_good hs hl).1] at hV
  rw [hb_z hs hl]
  exact (cb_zero h1.1 hV).1
end
end Go.Proofs.YtmfckhhmalogdaaGreatDoor
