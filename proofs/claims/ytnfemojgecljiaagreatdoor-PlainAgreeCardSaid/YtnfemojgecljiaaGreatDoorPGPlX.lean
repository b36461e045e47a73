/- Layer 15: equality, order, truth and hashes agree: the numbers' part, plainly. Layer 15: equality, order, truth and hashes agree, plainly. Layer 15: the truth of any plain value. -/
import Derived.Test.YtnfemojgecljiaaGreatDoorPGPlO
import Derived.Test.YtnfemojgecljiaaGreatDoorPGPlK
namespace Go.Proofs.YtnfemojgecljiaaGreatDoor
section
open Go Go.ChangeShapes Go.WideShapes Go.ChangeAt Go.RowKit
set_option linter.unusedVariables false
set_option linter.unusedSimpArgs false
theorem pow31 (t : Nat) : 2 ^ (31 * t) % 2147483647 = 1 := by
  rw [Nat.pow_mul, Nat.pow_mod, show (2 ^ 31 % 2147483647 : Nat) = 1 by decide, Nat.one_pow]
theorem mul31 (a t : Nat) : a * 2 ^ (31 * t) % 2147483647 = a % 2147483647 := by
  rw [Nat.mul_mod, pow31, Nat.mul_one, Nat.mod_mod]
/-- A float that is a whole number has its hash. -/
theorem hs_tr {b : Nat} (hl : lostB b = false) : hsB b = trV b % 2147483647 := by
  have e0 : hsB b = manB b * 2 ^ pwB b % 2147483647 := by unfold hsB db; rw [Nat.mul_mod, Nat.mod_mod, ← Nat.mul_mod]
  rw [e0]
  by_cases h : 0 ≤ exqB b
  · rw [tr_up b h]
    obtain ⟨t, ht⟩ : ∃ t, (exqB b).toNat = pwB b + 31 * t := ⟨(exqB b).toNat / 31, by unfold pwB; omega⟩
    rw [ht, Nat.pow_add, ← Nat.mul_assoc, mul31]
  · have hx : exqB b < 0 := by omega
    rw [lost_down b hx] at hl
    have hm : manB b % 2 ^ (-exqB b).toNat = 0 := by simpa using hl
    rw [tr_down b hx]
    have hd := Nat.div_add_mod (manB b) (2 ^ (-exqB b).toNat)
    rw [hm, Nat.add_zero] at hd
    obtain ⟨t, ht⟩ : ∃ t, (-exqB b).toNat + pwB b = 31 * t := ⟨((-exqB b).toNat + pwB b) / 31, by unfold pwB; omega⟩
    generalize hq : manB b / 2 ^ (-exqB b).toNat = q at hd ⊢
    rw [← hd, Nat.mul_comm (2 ^ (-exqB b).toNat) q, Nat.mul_assoc, ← Nat.pow_add, ht, mul31]
theorem tr_abs (b : Nat) : (trZ b).natAbs = trV b := by unfold trZ; split <;> omega
/-- A float that equals a whole number has its hash, and its truth. -/
theorem hash_tr {b : Nat} (hn : nanB b = false) (hi : infB b = false) (hl : lostB b = false) : hashV b = hzZ (trZ b) := by
  have h1 := hs_tr hl
  unfold hashV hzZ
  rw [hn, hi, if_neg (by decide), if_neg (by decide), tr_abs, h1]
  unfold trZ
  cases hg : negB b
  · simp only [Bool.false_eq_true, if_false]
    rw [if_neg (by omega)]; omega
  · simp only [if_true]
    by_cases h0 : trV b = 0
    · rw [h0]; decide
    · rw [if_pos (by omega)]; omega
theorem zero_tr {b : Nat} (hl : lostB b = false) : zeroB b = decide (trZ b = 0) := by
  have hm : magV (b % fSG) = trV b * 2 ^ eK := by unfold lostB at hl; simpa using hl
  unfold zeroB
  rw [decide_eq_decide]
  constructor
  · intro h
    rw [h] at hm
    have h0 : magV 0 = 0 := rfl
    rw [h0] at hm
    have hp := Nat.two_pow_pos eK
    have ht : trV b = 0 := by
      rcases Nat.mul_eq_zero.1 hm.symm with h | h
      · exact h
      · omega
    have := tr_abs b
    omega
  · intro h
    have ha := tr_abs b
    have ht : trV b = 0 := by omega
    rw [ht, Nat.zero_mul] at hm
    by_cases hz : b % fSG = 0
    · exact hz
    · exfalso
      unfold magV at hm
      split at hm
      · omega
      · have hp := Nat.two_pow_pos (b % fSG / 4503599627370496 - 1)
        rcases Nat.mul_eq_zero.1 hm with h | h <;> omega
/-- A float beside a number: equal. -/
theorem cb_zero {a : Nat} {z : Int} (hn : nanB a = false) (h : cbW a z = 0) : hashV a = hzZ z ∧ zeroB a = decide (z = 0) := by
  unfold cbW at h
  rw [hn, if_neg (by decide)] at h
  cases hi : infB a
  · rw [hi, if_neg (by decide)] at h
    unfold cbZ at h
    have hc : cmpI (trZ a) z = 0 := by
      by_cases hc : cmpI (trZ a) z = 0
      · exact hc
      · rw [if_pos hc] at h; exact absurd h hc
    rw [if_neg (by simp [hc])] at h
    have hl : lostB a = false := by
      cases hl : lostB a
      · rfl
      · rw [hl, if_pos rfl] at h
        split at h <;> cases h
    have hz : trZ a = z := by
      unfold cmpI at hc
      split at hc
      · cases hc
      · split at hc
        · cases hc
        · omega
    rw [← hz]
    exact ⟨hash_tr hn hi hl, zero_tr hl⟩
  · rw [hi, if_pos rfl] at h
    split at h <;> cases h
/-- Two floats: equal. -/
theorem cm_zero {a b : Nat} (ha : a < 18446744073709551616) (hb : b < 18446744073709551616) (hok : cmB a b = true) (h : cmV a b = 0) : hashV a = hashV b ∧ zeroB a = zeroB b := by
  have hn : nanB a = false ∧ nanB b = false := by
    unfold cmB at hok
    cases h1 : nanB a <;> cases h2 : nanB b <;> simp_all
  unfold cmV at h
  rw [if_neg (by rw [hn.1, hn.2]; decide)] at h
  rcases (cmpZ_zero ha hb).1 h with rfl | ⟨h1, h2⟩
  · exact ⟨rfl, rfl⟩
  · have key : ∀ x, nanB x = false → x % fSG = 0 → hashV x = 0 ∧ zeroB x = true := by
      intro x hx h0
      have hz : zeroB x = true := by unfold zeroB; rw [h0]; rfl
      have hi : infB x = false := by unfold infB; rw [h0]; rfl
      have hm : magV (x % fSG) = 0 := by rw [h0]; rfl
      have ht : trV x = 0 := by unfold trV; rw [hm]; exact Nat.zero_div _
      have hl : lostB x = false := by
        unfold lostB
        rw [hm, ht, Nat.zero_mul]; rfl
      have e := hash_tr hx hi hl
      have hz2 : trZ x = 0 := by unfold trZ; rw [ht]; split <;> rfl
      rw [hz2] at e
      exact ⟨e, hz⟩
    obtain ⟨e1, e2⟩ := key a hn.1 h1
    obtain ⟨e3, e4⟩ := key b hn.2 h2
    exact ⟨e1.trans e3.symm, e2.trans e4.symm⟩
theorem cmp_zero {a b : Int} (h : cmpI a b = 0) : a = b := by
  unfold cmpI at h
  split at h
  · cases h
  · split at h
    · cases h
    · omega
theorem cmpI_anti (a b : Int) : cmpI a b = -cmpI b a := by
  unfold cmpI
  by_cases h1 : a < b
  · rw [if_pos h1, if_neg (by omega), if_pos h1]
  · rw [if_neg h1]
    by_cases h2 : b < a
    · rw [if_pos h2, if_pos h2]; rfl
    · rw [if_neg h2, if_neg h2, if_neg h1]; rfl
theorem cmV_anti (a b : Nat) : cmV a b = -cmV b a := by
  unfold cmV
  by_cases h : nanB a = true ∨ nanB b = true
  · rw [if_pos h, if_pos (Or.symm h)]; rfl
  · rw [if_neg h, if_neg (fun g => h (Or.symm g)), cmpZ_anti]
theorem cmB_sym (a b : Nat) : cmB a b = cmB b a := by unfold cmB; rw [Bool.or_comm]
theorem nuC_anti (ka kb : Int) (ba bb : Nat) (za zb : Int) : nuC ka kb ba bb za zb = -nuC kb ka bb ba zb za := by
  unfold nuC
  by_cases h1 : ka = 3
  · by_cases h2 : kb = 3
    · rw [if_pos h1, if_pos h2, if_pos h2, if_pos h1]; exact cmV_anti _ _
    · rw [if_pos h1, if_neg h2, if_neg h2, if_pos h1, Int.neg_neg]
  · by_cases h2 : kb = 3
    · rw [if_neg h1, if_pos h2, if_pos h2, if_neg h1]
    · rw [if_neg h1, if_neg h2, if_neg h2, if_neg h1]; exact cmpI_anti _ _
theorem nuB_sym (ka kb : Int) (ba bb : Nat) : nuB ka kb ba bb = nuB kb ka bb ba := by
  unfold nuB
  by_cases h1 : ka = 3
  · by_cases h2 : kb = 3
    · rw [if_pos h1, if_pos h2, if_pos h2, if_pos h1]; exact cmB_sym _ _
    · rw [if_pos h1, if_neg h2, if_neg h2, if_pos h1]
  · by_cases h2 : kb = 3
    · rw [if_neg h1, if_pos h2, if_pos h2, if_neg h1]
    · rw [if_neg h1, if_neg h2, if_neg h2, if_neg h1]
theorem bytes_anti : ∀ a b : List UInt8, Lib.compareBytes a b = -Lib.compareBytes b a
  | [], [] => rfl
  | [], _ :: _ => rfl
  | _ :: _, [] => rfl
  | x :: ta, y :: tb => by
    unfold Lib.compareBytes
    have ih := bytes_anti ta tb
    by_cases h1 : x < y
    · have h2 : ¬ y < x := by rw [UInt8.lt_iff_toNat_lt] at h1 ⊢; omega
      rw [if_pos h1, if_neg h2, if_pos h1]
    · rw [if_neg h1]
      by_cases h2 : y < x
      · rw [if_pos h2, if_pos h2]; rfl
      · rw [if_neg h2, if_neg h2, if_neg h1]; exact ih
theorem bytes_self : ∀ a : List UInt8, Lib.compareBytes a a = 0
  | [] => rfl
  | x :: ta => by
    unfold Lib.compareBytes
    have h1 : ¬ x < x := by rw [UInt8.lt_iff_toNat_lt]; omega
    rw [if_neg h1, if_neg h1]; exact bytes_self ta
end
section
open Go Go.ChangeShapes Go.WideShapes Go.ChangeAt Go.RowKit
set_option linter.unusedVariables false
set_option linter.unusedSimpArgs false
/-- A plain value's truth, whether it is in form told. -/
def trP (g : Bool) (k : Int) (y : Bool) (l b : Nat) (s : ByteArray) : Bool := g && (if k = 1 then y else if k = 2 then decide (0 < l) else if k = 3 then !zeroB b else if k = 4 then !s.toList.isEmpty else false)
theorem beq_comm_int (a b : Int) : (a == b) = (b == a) := by rw [Bool.eq_iff_iff, beq_iff_eq, beq_iff_eq]; exact eq_comm
theorem beq_comm_list (a b : List UInt8) : (a == b) = (b == a) := by rw [Bool.eq_iff_iff, beq_iff_eq, beq_iff_eq]; exact eq_comm
theorem neg_beq (c : Int) : (-c == 0) = (c == 0) := by rw [Bool.eq_iff_iff, beq_iff_eq, beq_iff_eq]; omega
theorem eqP_sym (gA gB qA qB : Bool) (c : Int) (ok : Bool) (kA kB : Int) (xA xB : ByteArray) : eqP gA gB qA qB c ok kA kB xA xB = eqP gB gA qB qA (-c) ok kB kA xB xA := by
  unfold eqP
  rw [neg_beq, beq_comm_int kA kB, beq_comm_list xA.toList xB.toList, Bool.and_comm gA gB, Bool.and_comm qA qB]
theorem saP_sym (gA gB : Bool) (kA kB bA bB : Int) (nA nB yA yB : Bool) (lA lB : List UInt8) (c : Int) :
    saP gA gB (kA != kB) (kA == 3) (bA == bB) nA nB (yA == yB) (lA == lB) c = saP gB gA (kB != kA) (kB == 3) (bB == bA) nB nA (yB == yA) (lB == lA) (-c) := by
  unfold saP
  by_cases hk : kA = kB
  · subst hk
    rw [neg_beq, beq_comm_int bA bB, beq_comm_list lA lB, Bool.and_comm gA gB, Bool.and_comm nA nB, show (yA == yB) = (yB == yA) by cases yA <;> cases yB <;> rfl]
  · have h1 : (kA != kB) = true := by simpa using hk
    have h2 : (kB != kA) = true := by simpa using fun h => hk h.symm
    rw [h1, h2]; simp
theorem orC_anti (gA gB fA fB qA qB : Bool) (c s : Int) : orC gA gB fA fB qA qB c s = -orC gB gA fB fA qB qA (-c) (-s) := by
  unfold orC
  rw [Bool.and_comm gA gB, Bool.and_comm fA fB, Bool.and_comm qA qB]
  split
  · split
    · omega
    · split <;> omega
  · rfl
theorem orB_sym (gA gB fA fB qA qB ok : Bool) : orB gA gB fA fB qA qB ok = orB gB gA fB fA qB qA ok := by
  unfold orB; rw [Bool.and_comm gA gB, Bool.and_comm fA fB, Bool.and_comm qA qB]
theorem orE_sym (gA gB fA fB qA qB : Bool) : orE gA gB fA fB qA qB = orE gB gA fB fA qB qA := by
  unfold orE; rw [Bool.and_comm gA gB, Bool.and_comm fA fB, Bool.and_comm qA qB]
theorem tr_whole {k : Int} {y n : Bool} {ws : List Int} {b : Nat} {s : ByteArray} (hf : Fit ws) (hg : k = 2 → goodB n ws = true) (hk : k = 1 ∨ k = 2) : trP true k y ws.length b s = decide (zP k y n ws ≠ 0) := by
  unfold trP zP
  rcases hk with rfl | rfl
  · rw [if_pos rfl, if_neg (by decide)]
    cases y <;> rfl
  · rw [if_neg (by decide), if_pos rfl, if_pos rfl]
    obtain ⟨h1, h2⟩ := goodB_sgn (hg rfl) hf
    have he := h1.empty (by decide)
    rw [Bool.true_and, decide_eq_decide]
    constructor
    · intro h h0; have := he.2 h0; omega
    · intro h
      rcases Nat.eq_zero_or_pos ws.length with h0 | h0
      · exact absurd (he.1 h0) h
      · exact h0
theorem ha_whole {k : Int} {b : Nat} {s : ByteArray} {z : Int} (hk : k = 1 ∨ k = 2) : haP true k b s z = hzZ z := by
  unfold haP
  rcases hk with rfl | rfl
  · rw [if_pos rfl, if_neg (by decide), if_neg (by decide), if_neg (by decide)]
  · rw [if_pos rfl, if_neg (by decide), if_neg (by decide), if_neg (by decide)]
theorem ha_float {b : Nat} {s : ByteArray} {z : Int} : haP true 3 b s z = hashV b := by unfold haP; rw [if_pos rfl, if_neg (by decide), if_pos rfl]
theorem tr_float {y : Bool} {l b : Nat} {s : ByteArray} : trP true 3 y l b s = !zeroB b := by unfold trP; rw [if_neg (by decide), if_neg (by decide), if_pos rfl]; rfl
theorem decide_ne {z : Int} : (!decide (z = 0)) = decide (z ≠ 0) := by by_cases h : z = 0 <;> simp [h]
/-- What is equal has one hash and one truth. -/
theorem eq_agree {kA kB : Int} {yA nA yB nB : Bool} {sA sB : List Int} {bA bB : Nat} {xA xB : ByteArray} {mA mB : Nat} (hfA : Fit sA) (hfB : Fit sB) (hbA : bA < 18446744073709551616) (hbB : bB < 18446744073709551616)
    (hgA : goodP kA yA nA sA bA xA mA = true) (hgB : goodP kB yB nB sB bB xB mB = true)
    (h : eqP true true (numP kA) (numP kB) (nuC kA kB bA bB (zP kA yA nA sA) (zP kB yB nB sB)) (nuB kA kB bA bB) kA kB xA xB = true) :
    haP true kA bA xA (zP kA yA nA sA) = haP true kB bB xB (zP kB yB nB sB) ∧ trP true kA yA sA.length bA xA = trP true kB yB sB.length bB xB ∧ orC true true (kA == 4) (kB == 4) (numP kA) (numP kB) (nuC kA kB bA bB (zP kA yA nA sA) (zP kB yB nB sB)) (Lib.compareBytes xA.data.toList xB.data.toList) = 0 := by
  unfold eqP at h
  simp only [Bool.true_and] at h
  by_cases hq : (numP kA && numP kB) = true
  · rw [if_pos hq] at h
    have hqA : numP kA = true := by revert hq; cases numP kA <;> simp
    have hqB : numP kB = true := by revert hq; cases numP kB <;> simp
    have kA' := num_k hqA
    have kB' := num_k hqB
    have hc : nuC kA kB bA bB (zP kA yA nA sA) (zP kB yB nB sB) = 0 := by revert h; simp only [Bool.and_eq_true, beq_iff_eq]; exact fun h => h.1
    have hok : nuB kA kB bA bB = true := by revert h; simp only [Bool.and_eq_true]; exact fun h => h.2
    have ho : orC true true (kA == 4) (kB == 4) (numP kA) (numP kB) (nuC kA kB bA bB (zP kA yA nA sA) (zP kB yB nB sB)) (Lib.compareBytes xA.data.toList xB.data.toList) = 0 := by
      unfold orC
      have h4 : (kA == 4) = false := by rw [beq_eq_false_iff_ne]; omega
      rw [h4, hc]; simp
    refine ⟨?_, ?_, ho⟩
    all_goals
      unfold nuC at hc
      unfold nuB at hok
      by_cases h3A : kA = 3
      · rw [if_pos h3A] at hc hok
        by_cases h3B : kB = 3
        · rw [if_pos h3B] at hc hok
          obtain ⟨e1, e2⟩ := cm_zero hbA hbB hok hc
          subst h3A h3B
          first
            | (rw [ha_float, ha_float]; exact e1)
            | (rw [tr_float, tr_float, e2])
        · rw [if_neg h3B] at hc hok
          have hnan : nanB bA = false := by cases hn : nanB bA <;> simp_all
          obtain ⟨e1, e2⟩ := cb_zero hnan hc
          have hkB : kB = 1 ∨ kB = 2 := by omega
          subst h3A
          first
            | (rw [ha_float, ha_whole hkB]; exact e1)
            | (rw [tr_float, tr_whole hfB (good_k2 hgB) hkB, e2]; exact decide_ne)
      · rw [if_neg h3A] at hc hok
        have hkA : kA = 1 ∨ kA = 2 := by omega
        by_cases h3B : kB = 3
        · rw [if_pos h3B] at hc hok
          have hnan : nanB bB = false := by cases hn : nanB bB <;> simp_all
          obtain ⟨e1, e2⟩ := cb_zero hnan (show cbW bB (zP kA yA nA sA) = 0 by omega)
          subst h3B
          first
            | (rw [ha_float, ha_whole hkA]; exact e1.symm)
            | (rw [tr_float, tr_whole hfA (good_k2 hgA) hkA, e2]; exact decide_ne.symm)
        · rw [if_neg h3B] at hc hok
          have hkB : kB = 1 ∨ kB = 2 := by omega
          have hz := cmp_zero hc
          first
            | (rw [ha_whole hkA, ha_whole hkB, hz])
            | (rw [tr_whole hfA (good_k2 hgA) hkA, tr_whole hfB (good_k2 hgB) hkB, hz])
  · rw [if_neg hq] at h
    have hk : kA = kB := by revert h; simp only [Bool.and_eq_true, beq_iff_eq]; exact fun h => h.1
    have hx : xA.toList = xB.toList := by revert h; simp only [Bool.and_eq_true, beq_iff_eq]; exact fun h => h.2
    subst hk
    have hn : numP kA = false := by revert hq; cases numP kA <;> simp
    have hk04 := not_num (good_k hgA) hn
    have hxd : xA.data.toList = xB.data.toList := by rw [← Lib.toList_data, ← Lib.toList_data]; exact hx
    have hxe : xA = xB := by
      cases xA with
      | mk a => cases xB with
        | mk b => congr 1; exact Array.ext' hxd
    subst hxe
    refine ⟨?_, ?_, ?_⟩
    · rcases hk04 with rfl | rfl
      · unfold haP; simp
      · unfold haP; simp
    · rcases hk04 with rfl | rfl
      · unfold trP; simp
      · unfold trP; simp
    · unfold orC
      rw [hn, bytes_self]
      simp
/-- What is the same is equal, but for NaN. -/
theorem sa_agree {kA kB : Int} {yA nA yB nB : Bool} {sA sB : List Int} {bA bB : Nat} {xA xB : ByteArray} {mA mB : Nat} (hfA : Fit sA) (hfB : Fit sB)
    (hgA : goodP kA yA nA sA bA xA mA = true) (hgB : goodP kB yB nB sB bB xB mB = true)
    (h : saP true true (kA != kB) (kA == 3) ((bA : Int) == (bB : Int)) (nanB bA) (nanB bB) (yA == yB) (xA.toList == xB.toList) (cmpI (sg nA (val B18 sA)) (sg nB (val B18 sB))) = true) (hnan : ((kA == 3) && nanB bA) = false) :
    eqP true true (numP kA) (numP kB) (nuC kA kB bA bB (zP kA yA nA sA) (zP kB yB nB sB)) (nuB kA kB bA bB) kA kB xA xB = true := by
  unfold saP at h
  simp only [Bool.true_and, Bool.and_eq_true, Bool.not_eq_true', bne_eq_false_iff_eq] at h
  obtain ⟨hk, h⟩ := h
  subst hk
  unfold eqP
  simp only [Bool.true_and, Bool.and_self]
  by_cases h3 : kA = 3
  · subst h3
    rw [if_pos (by rfl)] at h
    have hna : nanB bA = false := by simpa using hnan
    rw [hna] at h
    have hb : bA = bB := by
      have : ((bA : Int) == (bB : Int)) = true := by simpa using h
      rw [beq_iff_eq] at this; omega
    subst hb
    rw [if_pos (by rfl)]
    unfold nuC nuB
    rw [if_pos rfl, if_pos rfl, if_pos rfl, if_pos rfl]
    unfold cmV cmB
    rw [hna, if_neg (by decide), cmpZ_self]; rfl
  · have hf3 : (kA == 3) = false := by simpa using h3
    rw [hf3, if_neg (by decide)] at h
    simp only [Bool.and_eq_true, beq_iff_eq] at h
    obtain ⟨⟨hy, hx⟩, hc⟩ := h
    have hz := cmp_zero hc
    cases hn : numP kA
    · rw [if_neg (by decide)]
      simp [hx]
    · rw [if_pos rfl]
      have hzz : zP kA yA nA sA = zP kA yB nB sB := by unfold zP; rw [hz, hy]
      unfold nuC nuB
      rw [if_neg h3, if_neg h3, if_neg h3, if_neg h3, hzz]
      unfold cmpI; simp
end
section
open Go Go.ChangeShapes Go.WideShapes Go.ChangeAt Go.RowKit
set_option linter.unusedVariables false
set_option linter.unusedSimpArgs false
set_option maxRecDepth 100000 in
set_option maxHeartbeats 4000000 in
theorem truth_any (k : Int) (y n : Bool) (u : Value) (ws : List Int) (b : Nat) (s : ByteArray) (ip : Option Addr) (m ic : Nat) (w : World) (hb : b < 18446744073709551616) (hr : Rd w u ws) (hf : Fit ws) (hm : (m : Int) ≤ 9223372036854775807) (hs : (s.size : Int) ≤ 9223372036854775807) :
    Calls Tryz.prog 14 #[.agg #[.int .i64 k, .bool y, .bool n, u, .int .u64 (b : Int), .string s, .slice ip m ic]] w fun e w' => e = .returned (.bool (trP (goodP k y n ws b s m) k y ws.length b s)) ∧ Below w.heap.size w w' := by
  obtain ⟨p, c, rfl, hc, hwm, hp⟩ := rd_form hr
  have HB1 := Lib.hid (show Below w.heap.size w (w.alloc (.cells #[.int .i64 k, .bool y, .bool n, .slice p ws.length c, .int .u64 (b : Int), .string s, .slice ip m ic] 28)) from (Below.refl _ _).alloc (Nat.le_refl _) _)
  have HX1 := Lib.hid (Bx7.new w (.int .i64 k) (.bool y) (.bool n) (.slice p ws.length c) (.int .u64 (b : Int)) (.string s) (.slice ip m ic) 28 rfl)
  have HR1 := Lib.hid (hr.keep HB1.out)
  have HG := Lib.hid (good15_any k y n _ ws b s ip m ic _ hb HR1.out hf hm hs)
  obtain ⟨W1, hW1⟩ : ∃ x, w.alloc (.cells #[.int .i64 k, .bool y, .bool n, .slice p ws.length c, .int .u64 (b : Int), .string s, .slice ip m ic] 28) = x := ⟨_, rfl⟩
  rw [hW1] at HB1 HX1 HG HR1
  have HV := Lib.hid (show trP (goodP k y n ws b s m) k y ws.length b s = (goodP k y n ws b s m && (if k = 1 then y else if k = 2 then decide (0 < ws.length) else if k = 3 then !zeroB b else if k = 4 then !s.toList.isEmpty else false)) from rfl)
  obtain ⟨g, hg⟩ : ∃ g, goodP k y n ws b s m = g := ⟨_, rfl⟩
  rw [hg] at HG HV ⊢
  have hz : (FloatKind.f64.format.order b 0 == some .eq) = zeroB b := zero_d b
  have hzn : (FloatKind.f64.format.order b 0 != some .eq) = !zeroB b := by rw [← hz]; rfl
  have hfb := run_frombits b
  clear hr hf hp hg
  have c0 := HX1.out.c0
  have c1 := HX1.out.c1
  have c2 := HX1.out.c2
  have c3 := HX1.out.c3
  have c4 := HX1.out.c4
  have c5 := HX1.out.c5
  have c6 := HX1.out.c6
  cases g
  · simp only [Bool.false_and] at HV
    clear hzn hz hfb
    go_enter Tryz.func14, Tryz.ntmps14
    go_wp2_with (first
      | (go_at_call 25; (try rw [hW1]); refine HG.out.mono ?_; rintro e w2 ⟨rfl, hbb⟩; have HB2 := Lib.hid (HB1.out.trans (hbb.mono HB1.out.size)); clear hbb HG)
      | fail)
    go_ret
    exact ⟨by rw [HV.out]; first | rfl | simp, HB2.out⟩
  · simp only [Bool.true_and] at HV
    by_cases k1 : k = 1
    · subst k1
      rw [if_pos rfl] at HV
      go_enter Tryz.func14, Tryz.ntmps14
      go_wp2_with (first
        | (go_at_call 25; (try rw [hW1]); refine HG.out.mono ?_; rintro e w2 ⟨rfl, hbb⟩; have HB2 := Lib.hid (HB1.out.trans (hbb.mono HB1.out.size)); have d0 := below_cell hbb c0; have d1 := below_cell hbb c1; have d2 := below_cell hbb c2; have d3 := below_cell hbb c3; have d4 := below_cell hbb c4; have d5 := below_cell hbb c5; have d6 := below_cell hbb c6; clear hbb HG)
        | fail)
      go_ret
      exact ⟨by rw [HV.out]; first | rfl | simp, HB2.out⟩
    rw [if_neg k1] at HV
    have q1 : (k == 1) = false := by simpa using k1
    by_cases k2 : k = 2
    · subst k2
      rw [if_pos rfl] at HV
      go_enter Tryz.func14, Tryz.ntmps14
      go_wp2_with (first
        | (go_at_call 25; (try rw [hW1]); refine HG.out.mono ?_; rintro e w2 ⟨rfl, hbb⟩; have HB2 := Lib.hid (HB1.out.trans (hbb.mono HB1.out.size)); have d0 := below_cell hbb c0; have d1 := below_cell hbb c1; have d2 := below_cell hbb c2; have d3 := below_cell hbb c3; have d4 := below_cell hbb c4; have d5 := below_cell hbb c5; have d6 := below_cell hbb c6; clear hbb HG)
        | fail)
      go_ret
      exact ⟨by rw [HV.out]; first | rfl | simp, HB2.out⟩
    rw [if_neg k2] at HV
    have q2 : (k == 2) = false := by simpa using k2
    by_cases k3 : k = 3
    · subst k3
      rw [if_pos rfl] at HV
      go_enter Tryz.func14, Tryz.ntmps14
      go_wp2_with (first
        | (go_at_call 25; (try rw [hW1]); refine HG.out.mono ?_; rintro e w2 ⟨rfl, hbb⟩; have HB2 := Lib.hid (HB1.out.trans (hbb.mono HB1.out.size)); have d0 := below_cell hbb c0; have d1 := below_cell hbb c1; have d2 := below_cell hbb c2; have d3 := below_cell hbb c3; have d4 := below_cell hbb c4; have d5 := below_cell hbb c5; have d6 := below_cell hbb c6; clear hbb HG)
        | fail)
      go_ret
      exact ⟨by rw [HV.out]; first | rfl | simp, HB2.out⟩
    rw [if_neg k3] at HV
    have q3 : (k == 3) = false := by simpa using k3
    by_cases k4 : k = 4
    · subst k4
      rw [if_pos rfl] at HV
      obtain ⟨qs, hqs⟩ : ∃ q, s.toList.isEmpty = q := ⟨_, rfl⟩
      rw [hqs] at HV
      go_enter Tryz.func14, Tryz.ntmps14
      go_wp2_with (first
        | (go_at_call 25; (try rw [hW1]); refine HG.out.mono ?_; rintro e w2 ⟨rfl, hbb⟩; have HB2 := Lib.hid (HB1.out.trans (hbb.mono HB1.out.size)); have d0 := below_cell hbb c0; have d1 := below_cell hbb c1; have d2 := below_cell hbb c2; have d3 := below_cell hbb c3; have d4 := below_cell hbb c4; have d5 := below_cell hbb c5; have d6 := below_cell hbb c6; clear hbb HG)
        | fail)
      go_ret
      exact ⟨by rw [HV.out]; first | rfl | simp, HB2.out⟩
    rw [if_neg k4] at HV
    have q4 : (k == 4) = false := by simpa using k4
    go_enter Tryz.func14, Tryz.ntmps14
    go_wp2_with (first
        | (go_at_call 25; (try rw [hW1]); refine HG.out.mono ?_; rintro e w2 ⟨rfl, hbb⟩; have HB2 := Lib.hid (HB1.out.trans (hbb.mono HB1.out.size)); have d0 := below_cell hbb c0; have d1 := below_cell hbb c1; have d2 := below_cell hbb c2; have d3 := below_cell hbb c3; have d4 := below_cell hbb c4; have d5 := below_cell hbb c5; have d6 := below_cell hbb c6; clear hbb HG)
        | fail)
    go_ret
    exact ⟨by rw [HV.out]; first | rfl | simp, HB2.out⟩
end
end Go.Proofs.YtnfemojgecljiaaGreatDoor
