/- parseFloat64 of a whole number with the power 0: the nearest float. real.Of: some float of a whole number. real.Of of any number: some float, or an error. ParseFloat of a whole number of at most 18 digits: the nearest float. Layer 15: both sides' Of and Whole: one answer. -/
import Derived.Test.YtpebnofjcodikaaGreatDoorPGPiC
import Derived.Test.YtpebnofjcodikaaGreatDoorPGWh
import Derived.Test.YtpebnofjcodikaaGreatDoorPGPiF
import Derived.Test.YtpebnofjcodikaaGreatDoorPGRlW
import Derived.Test.YtpebnofjcodikaaGreatDoorPGRlG
import Derived.Test.YtpebnofjcodikaaGreatDoorPGRlD
namespace Go.Proofs.YtpebnofjcodikaaGreatDoor
section
open Go Go.ChangeShapes Go.WideShapes Go.RowKit Ieee
set_option linter.unusedVariables false
set_option linter.unusedSimpArgs false
end
section
open Go Go.ChangeShapes Go.WideShapes Go.RowKit Go.PlainAid
set_option linter.unusedVariables false
set_option linter.unusedSimpArgs false
theorem txt_one (xs : List Int) : ∀ i, 1 ≤ (txt xs i).length
  | 0 => by
    rw [txt, Lib.decDigits_length]
    have := Lib.nDigits_pos (xs.getD (xs.length - 1) 0).toNat
    omega
  | i + 1 => by
    have := txt_one xs i
    rw [txt, List.length_append]; omega
theorem nml_dig {l : List UInt8} (hd : AllDig l) (h1 : 1 ≤ l.length) (h2 : l.length ≤ 1000) : Nml ⟨l.toArray⟩ l.length l.length 0 := by
  have hs := list_size l
  have hb : ∀ i, (h : i < l.length) → bt ⟨l.toArray⟩ i = ((l[i]'h).toNat : Int) := fun i h => bt_list _ (by rw [hs]; exact h)
  refine ⟨h1, Nat.le_refl _, by rw [hs]; exact Nat.le_refl _, by rw [hs]; exact h2, fun i hi => ?_, fun h => absurd h (Nat.lt_irrefl _), fun i h3 h4 => by omega, fun h => by rw [hs] at h; exact absurd h (Nat.lt_irrefl _), fun i h => by rw [hs] at h; exact absurd h (Nat.lt_irrefl _)⟩
  rw [hb i hi]
  have := hd _ (List.getElem_mem hi)
  omega
theorem nm1_dig {l : List UInt8} (hd : AllDig l) (h1 : 1 ≤ l.length) (h2 : l.length ≤ 999) : Nm1 ⟨(45 :: l).toArray⟩ (l.length + 1) (l.length + 1) 0 := by
  have hs : (⟨(45 :: l).toArray⟩ : ByteArray).size = l.length + 1 := list_size (45 :: l)
  have hb : ∀ i, (h : i < l.length + 1) → bt ⟨(45 :: l).toArray⟩ i = (((45 :: l)[i]'h).toNat : Int) := fun i h => bt_list _ (by rw [hs]; exact h)
  refine ⟨by rw [hb 0 (by omega)]; rfl, by omega, Nat.le_refl _, by rw [hs]; exact Nat.le_refl _, by rw [hs]; omega, fun i h3 h4 => ?_, fun h => absurd h (Nat.lt_irrefl _), fun i h3 h4 => by omega, fun h => by rw [hs] at h; exact absurd h (Nat.lt_irrefl _), fun i h => by rw [hs] at h; exact absurd h (Nat.lt_irrefl _)⟩
  rw [hb i h4]
  obtain ⟨k, rfl⟩ : ∃ k, i = k + 1 := ⟨i - 1, by omega⟩
  have := hd _ (List.getElem_mem (l := l) (n := k) (by omega))
  rw [List.getElem_cons_succ]
  omega
theorem mn_nn {F : Nat} (h : FMn F) : nanB F = false ∧ F < 18446744073709551616 := by
  obtain ⟨r, hr, rfl⟩ := h
  exact ⟨(mn_facts hr).2.2.1, (mn_facts hr).2.2.2⟩
/-- ParseFloat of the text of a number in form. -/
theorem pf_textB {hiT loT T : Nat → Nat} (hf : TBF hiT loT T) (tv : TypeId) (yv : Value) (neg : Bool) (xs : List Int) (hd : Dig B18 xs) (hl : xs.length ≤ 30) : ∃ F, nanB F = false ∧ F < 18446744073709551616 ∧ ∀ w, PFT hiT loT T tv yv w w.heap.size →
    Calls Tryz.prog 115 #[.string (textB neg xs), .int .i64 64] w fun r w' => (∃ v, r = .returned (.tuple #[.float .f64 F, v])) ∧ Below w.heap.size w w' := by
  unfold textB
  by_cases h0 : xs.length = 0
  · rw [if_pos h0]
    obtain ⟨F, h1, h2⟩ := pfl_any hf tv yv _ _ _ _ (nml_dig (l := [48]) (fun c hc => by simp at hc; subst hc; decide) (by decide) (by decide))
    exact ⟨F, (nn_le h1).1, (nn_le h1).2.1, h2⟩
  · rw [if_neg h0]
    have hlen := txt_len hd (xs.length - 1)
    have h1 := txt_one xs (xs.length - 1)
    cases neg with
    | false =>
      obtain ⟨F, h3, h4⟩ := pfl_any hf tv yv _ _ _ _ (nml_dig (txt_dig xs (xs.length - 1)) h1 (by omega))
      exact ⟨F, (nn_le h3).1, (nn_le h3).2.1, h4⟩
    | true =>
      obtain ⟨F, h3, h4⟩ := pflm_any hf tv yv _ _ _ _ (nm1_dig (txt_dig xs (xs.length - 1)) h1 (by omega))
      exact ⟨F, (mn_nn h3).1, (mn_nn h3).2, fun w hw => h4 w hw.t hw.e hw.el⟩
end
section
open Go Go.ChangeShapes Go.WideShapes Go.RowKit Ieee
set_option linter.unusedVariables false
set_option linter.unusedSimpArgs false
def OfE (b : Nat) (x : Int) (w : World) (e : Ending) (w' : World) : Prop := e = .returned (.tuple #[.int .u64 ((b : Nat) : Int), .int .i64 x]) ∧ Below w.heap.size w w'
def OfP (w : World) (e : Ending) (w' : World) : Prop := ∃ (b : Nat) (x : Int), e = .returned (.tuple #[.int .u64 ((b : Nat) : Int), .int .i64 x]) ∧ b < 18446744073709551616 ∧ Below w.heap.size w w'
theorem foi_le (n : Int) (h : 0 ≤ n) : floatOfInt .f64 n ≤ fIN := by
  have e0 : floatOfInt .f64 n = double.nearest false n.natAbs 0 := by
    show double.nearest (decide (n < 0)) n.natAbs 0 = _
    rw [decide_eq_false (by omega)]
  rw [e0]; exact near_le _ _
theorem patBl {F : Nat} (hn : nanB F = false) (h : F < 18446744073709551616) : patB F < 18446744073709551616 := by
  unfold patB; rw [hn, if_neg (by decide)]; exact h
set_option maxRecDepth 100000 in
set_option maxHeartbeats 2000000 in
theorem of_bad (n1 : Bool) (u1 : Value) (xs : List Int) (w : World) (hr1 : Rd w u1 xs) (hf1 : Fit xs) (hg : goodB n1 xs = false) :
    Calls Tryz.prog 87 #[.agg #[.bool n1, u1]] w (OfE 0 3 w) := by
  obtain ⟨p, c, rfl, hc, hm, hp⟩ := rd_form hr1
  have hb1 : Below w.heap.size w (w.alloc (.cells #[.bool n1, .slice p xs.length c] 24)) := (Below.refl _ _).alloc (Nat.le_refl _) _
  have HG := Lib.hid (good_any n1 _ xs (w.alloc (.cells #[.bool n1, .slice p xs.length c] 24)) (hr1.keep hb1) hf1)
  have HB1 := Lib.hid hb1
  have HX1 := Lib.hid (Box2.new w (.bool n1) (.slice p xs.length c) 24 rfl)
  obtain ⟨W1, hW1⟩ : ∃ x, w.alloc (.cells #[.bool n1, .slice p xs.length c] 24) = x := ⟨_, rfl⟩
  rw [hW1] at HB1 HG HX1
  rw [hg] at HG
  have c0 := HX1.out.c0
  have c1 := HX1.out.c1
  clear hr1 hf1 hb1 hp hg
  go_enter Tryz.func87, Tryz.ntmps87
  go_wp2_with (first
    | (go_at_call 45; (try rw [hW1]); refine HG.out.mono ?_; rintro e w2 ⟨rfl, hb⟩; have HB2 := Lib.hid (HB1.out.trans (hb.mono HB1.out.size)); clear hb HG)
    | fail)
  go_ret2
  exact ⟨rfl, HB2.out⟩
set_option maxRecDepth 100000 in
set_option maxHeartbeats 2000000 in
theorem of_one_p_f (u1 : Value) (xs : List Int) (F : Nat) (w : World) (hr1 : Rd w u1 xs) (hf1 : Fit xs) (hg : goodB false xs = true) (hl : xs.length = 1) (hF : floatOfInt .f64 (xs.getD 0 0) = F) (hFl : F ≤ fIN) (hi : infB F = false) :
    Calls Tryz.prog 87 #[.agg #[.bool false, u1]] w (OfE (patB F) 0 w) := by
  obtain ⟨f1, f2, f3, f4, f5⟩ := nn_le hFl
  obtain ⟨p, c, rfl, hc, hm, hp⟩ := rd_form hr1
  obtain ⟨bb, off, rfl, hcell⟩ := hp (by omega)
  have h0 := hcell 0 (by omega)
  rw [Nat.add_zero] at h0
  obtain ⟨x0, hx0⟩ : ∃ x0, xs.getD 0 0 = x0 := ⟨_, rfl⟩
  rw [hx0] at h0 hF
  rw [hl] at *
  have hb1 : Below w.heap.size w (w.alloc (.cells #[.bool false, .slice (some ⟨bb, off, none⟩) 1 c] 24)) := (Below.refl _ _).alloc (Nat.le_refl _) _
  have HG := Lib.hid (good_any false (.slice (some ⟨bb, off, none⟩) 1 c) xs (w.alloc (.cells #[.bool false, .slice (some ⟨bb, off, none⟩) 1 c] 24)) (hr1.keep hb1) hf1)
  have HB1 := Lib.hid hb1
  have HX1 := Lib.hid (Box2.new w (.bool false) (.slice (some ⟨bb, off, none⟩) 1 c) 24 rfl)
  have HK := Lib.hid h0
  obtain ⟨W1, hW1⟩ : ∃ x, w.alloc (.cells #[.bool false, .slice (some ⟨bb, off, none⟩) 1 c] 24) = x := ⟨_, rfl⟩
  rw [hW1] at HB1 HG HX1
  rw [hg] at HG
  have c0 := HX1.out.c0
  have c1 := HX1.out.c1
  have HI := Lib.hid (fun W => isInf0 F f2 f1 W)
  have HPa := Lib.hid (fun W => pattern_any F W)
  have HPL := Lib.hid (patBl f1 f2)
  rw [hi] at HI
  have HFF := Lib.hid hF
  clear hr1 hf1 hb1 hp hg hcell hl hi f1 f2 f3 f4 f5 hF h0 hFl hx0 hc hm
  go_enter Tryz.func87, Tryz.ntmps87
  go_upto_region 3 with (first
    | (go_at_call 45; (try rw [hW1]); refine HG.out.mono ?_; rintro e w2 ⟨rfl, hb⟩; have HB2 := Lib.hid (HB1.out.trans (hb.mono HB1.out.size)); have d0 := below_cell hb c0; have d1 := below_cell hb c1; clear hb HG)
    | fail)
  have k0 := below_cell HB2.out HK.out
  have hF := HFF.out
  clear c0 c1 hW1
  go_wp2_with (first
    | (go_at_call 68; (try rw [hF]); (with_reducible refine (HI.out _).mono ?_); rintro e w9 ⟨rfl, rfl⟩)
    | (go_at_call 91; (try rw [hF]); (with_reducible refine (HPa.out _).mono ?_); rintro e w9 ⟨rfl, rfl⟩)
    | fail)
  go_ret2
  exact ⟨rfl, HB2.out⟩
set_option maxRecDepth 100000 in
set_option maxHeartbeats 2000000 in
theorem of_one_p_i (u1 : Value) (xs : List Int) (F : Nat) (w : World) (hr1 : Rd w u1 xs) (hf1 : Fit xs) (hg : goodB false xs = true) (hl : xs.length = 1) (hF : floatOfInt .f64 (xs.getD 0 0) = F) (hFl : F ≤ fIN) (hi : infB F = true) :
    Calls Tryz.prog 87 #[.agg #[.bool false, u1]] w (OfE 0 7 w) := by
  obtain ⟨f1, f2, f3, f4, f5⟩ := nn_le hFl
  obtain ⟨p, c, rfl, hc, hm, hp⟩ := rd_form hr1
  obtain ⟨bb, off, rfl, hcell⟩ := hp (by omega)
  have h0 := hcell 0 (by omega)
  rw [Nat.add_zero] at h0
  obtain ⟨x0, hx0⟩ : ∃ x0, xs.getD 0 0 = x0 := ⟨_, rfl⟩
  rw [hx0] at h0 hF
  rw [hl] at *
  have hb1 : Below w.heap.size w (w.alloc (.cells #[.bool false, .slice (some ⟨bb, off, none⟩) 1 c] 24)) := (Below.refl _ _).alloc (Nat.le_refl _) _
  have HG := Lib.hid (good_any false (.slice (some ⟨bb, off, none⟩) 1 c) xs (w.alloc (.cells #[.bool false, .slice (some ⟨bb, off, none⟩) 1 c] 24)) (hr1.keep hb1) hf1)
  have HB1 := Lib.hid hb1
  have HX1 := Lib.hid (Box2.new w (.bool false) (.slice (some ⟨bb, off, none⟩) 1 c) 24 rfl)
  have HK := Lib.hid h0
  obtain ⟨W1, hW1⟩ : ∃ x, w.alloc (.cells #[.bool false, .slice (some ⟨bb, off, none⟩) 1 c] 24) = x := ⟨_, rfl⟩
  rw [hW1] at HB1 HG HX1
  rw [hg] at HG
  have c0 := HX1.out.c0
  have c1 := HX1.out.c1
  have HI := Lib.hid (fun W => isInf0 F f2 f1 W)
  have HPa := Lib.hid (fun W => pattern_any F W)
  have HPL := Lib.hid (patBl f1 f2)
  rw [hi] at HI
  have HFF := Lib.hid hF
  clear hr1 hf1 hb1 hp hg hcell hl hi f1 f2 f3 f4 f5 hF h0 hFl hx0 hc hm
  go_enter Tryz.func87, Tryz.ntmps87
  go_upto_region 3 with (first
    | (go_at_call 45; (try rw [hW1]); refine HG.out.mono ?_; rintro e w2 ⟨rfl, hb⟩; have HB2 := Lib.hid (HB1.out.trans (hb.mono HB1.out.size)); have d0 := below_cell hb c0; have d1 := below_cell hb c1; clear hb HG)
    | fail)
  have k0 := below_cell HB2.out HK.out
  have hF := HFF.out
  clear c0 c1 hW1
  go_wp2_with (first
    | (go_at_call 68; (try rw [hF]); (with_reducible refine (HI.out _).mono ?_); rintro e w9 ⟨rfl, rfl⟩)
    | (go_at_call 91; (try rw [hF]); (with_reducible refine (HPa.out _).mono ?_); rintro e w9 ⟨rfl, rfl⟩)
    | fail)
  go_ret2
  exact ⟨rfl, HB2.out⟩
set_option maxRecDepth 100000 in
set_option maxHeartbeats 2000000 in
theorem of_one_m_f (u1 : Value) (xs : List Int) (F : Nat) (w : World) (hr1 : Rd w u1 xs) (hf1 : Fit xs) (hg : goodB true xs = true) (hl : xs.length = 1) (hF : floatOfInt .f64 (xs.getD 0 0) = F) (hFl : F ≤ fIN) (hi : infB (F + fSG) = false) :
    Calls Tryz.prog 87 #[.agg #[.bool true, u1]] w (OfE (patB (F + fSG)) 0 w) := by
  obtain ⟨f1, f2, f3, f4, f5⟩ := nn_le hFl
  obtain ⟨p, c, rfl, hc, hm, hp⟩ := rd_form hr1
  obtain ⟨bb, off, rfl, hcell⟩ := hp (by omega)
  have h0 := hcell 0 (by omega)
  rw [Nat.add_zero] at h0
  obtain ⟨x0, hx0⟩ : ∃ x0, xs.getD 0 0 = x0 := ⟨_, rfl⟩
  rw [hx0] at h0 hF
  rw [hl] at *
  have hb1 : Below w.heap.size w (w.alloc (.cells #[.bool true, .slice (some ⟨bb, off, none⟩) 1 c] 24)) := (Below.refl _ _).alloc (Nat.le_refl _) _
  have HG := Lib.hid (good_any true (.slice (some ⟨bb, off, none⟩) 1 c) xs (w.alloc (.cells #[.bool true, .slice (some ⟨bb, off, none⟩) 1 c] 24)) (hr1.keep hb1) hf1)
  have HB1 := Lib.hid hb1
  have HX1 := Lib.hid (Box2.new w (.bool true) (.slice (some ⟨bb, off, none⟩) 1 c) 24 rfl)
  have HK := Lib.hid h0
  obtain ⟨W1, hW1⟩ : ∃ x, w.alloc (.cells #[.bool true, .slice (some ⟨bb, off, none⟩) 1 c] 24) = x := ⟨_, rfl⟩
  rw [hW1] at HB1 HG HX1
  rw [hg] at HG
  have c0 := HX1.out.c0
  have c1 := HX1.out.c1
  have hng : ∀ W, (Op.unary UnOp.neg (.float .f64 F)).run Tryz.prog W = .ok (.float .f64 (F + fSG)) W := fun W => by
    have := run_neg F f2 f1 W
    rw [f3] at this
    exact this
  have HI := Lib.hid (fun W => isInf0 (F + fSG) f5 f4 W)
  have HPa := Lib.hid (fun W => pattern_any (F + fSG) W)
  have HPL := Lib.hid (patBl f4 f5)
  rw [hi] at HI
  generalize F + fSG = G at hng HI HPa HPL hi f4 f5 ⊢
  have HFF := Lib.hid hF
  clear hr1 hf1 hb1 hp hg hcell hl hi f1 f2 f3 f4 f5 hF h0 hFl hx0 hc hm
  go_enter Tryz.func87, Tryz.ntmps87
  go_upto_region 3 with (first
    | (go_at_call 45; (try rw [hW1]); refine HG.out.mono ?_; rintro e w2 ⟨rfl, hb⟩; have HB2 := Lib.hid (HB1.out.trans (hb.mono HB1.out.size)); have d0 := below_cell hb c0; have d1 := below_cell hb c1; clear hb HG)
    | fail)
  have k0 := below_cell HB2.out HK.out
  have hF := HFF.out
  clear c0 c1 hW1
  go_wp2_with (first
    | (go_at_call 68; (try rw [hF]); (with_reducible refine (HI.out _).mono ?_); rintro e w9 ⟨rfl, rfl⟩)
    | (go_at_call 91; (try rw [hF]); (with_reducible refine (HPa.out _).mono ?_); rintro e w9 ⟨rfl, rfl⟩)
    | fail)
  go_ret2
  exact ⟨rfl, HB2.out⟩
set_option maxRecDepth 100000 in
set_option maxHeartbeats 2000000 in
theorem of_one_m_i (u1 : Value) (xs : List Int) (F : Nat) (w : World) (hr1 : Rd w u1 xs) (hf1 : Fit xs) (hg : goodB true xs = true) (hl : xs.length = 1) (hF : floatOfInt .f64 (xs.getD 0 0) = F) (hFl : F ≤ fIN) (hi : infB (F + fSG) = true) :
    Calls Tryz.prog 87 #[.agg #[.bool true, u1]] w (OfE 0 7 w) := by
  obtain ⟨f1, f2, f3, f4, f5⟩ := nn_le hFl
  obtain ⟨p, c, rfl, hc, hm, hp⟩ := rd_form hr1
  obtain ⟨bb, off, rfl, hcell⟩ := hp (by omega)
  have h0 := hcell 0 (by omega)
  rw [Nat.add_zero] at h0
  obtain ⟨x0, hx0⟩ : ∃ x0, xs.getD 0 0 = x0 := ⟨_, rfl⟩
  rw [hx0] at h0 hF
  rw [hl] at *
  have hb1 : Below w.heap.size w (w.alloc (.cells #[.bool true, .slice (some ⟨bb, off, none⟩) 1 c] 24)) := (Below.refl _ _).alloc (Nat.le_refl _) _
  have HG := Lib.hid (good_any true (.slice (some ⟨bb, off, none⟩) 1 c) xs (w.alloc (.cells #[.bool true, .slice (some ⟨bb, off, none⟩) 1 c] 24)) (hr1.keep hb1) hf1)
  have HB1 := Lib.hid hb1
  have HX1 := Lib.hid (Box2.new w (.bool true) (.slice (some ⟨bb, off, none⟩) 1 c) 24 rfl)
  have HK := Lib.hid h0
  obtain ⟨W1, hW1⟩ : ∃ x, w.alloc (.cells #[.bool true, .slice (some ⟨bb, off, none⟩) 1 c] 24) = x := ⟨_, rfl⟩
  rw [hW1] at HB1 HG HX1
  rw [hg] at HG
  have c0 := HX1.out.c0
  have c1 := HX1.out.c1
  have hng : ∀ W, (Op.unary UnOp.neg (.float .f64 F)).run Tryz.prog W = .ok (.float .f64 (F + fSG)) W := fun W => by
    have := run_neg F f2 f1 W
    rw [f3] at this
    exact this
  have HI := Lib.hid (fun W => isInf0 (F + fSG) f5 f4 W)
  have HPa := Lib.hid (fun W => pattern_any (F + fSG) W)
  have HPL := Lib.hid (patBl f4 f5)
  rw [hi] at HI
  generalize F + fSG = G at hng HI HPa HPL hi f4 f5 ⊢
  have HFF := Lib.hid hF
  clear hr1 hf1 hb1 hp hg hcell hl hi f1 f2 f3 f4 f5 hF h0 hFl hx0 hc hm
  go_enter Tryz.func87, Tryz.ntmps87
  go_upto_region 3 with (first
    | (go_at_call 45; (try rw [hW1]); refine HG.out.mono ?_; rintro e w2 ⟨rfl, hb⟩; have HB2 := Lib.hid (HB1.out.trans (hb.mono HB1.out.size)); have d0 := below_cell hb c0; have d1 := below_cell hb c1; clear hb HG)
    | fail)
  have k0 := below_cell HB2.out HK.out
  have hF := HFF.out
  clear c0 c1 hW1
  go_wp2_with (first
    | (go_at_call 68; (try rw [hF]); (with_reducible refine (HI.out _).mono ?_); rintro e w9 ⟨rfl, rfl⟩)
    | (go_at_call 91; (try rw [hF]); (with_reducible refine (HPa.out _).mono ?_); rintro e w9 ⟨rfl, rfl⟩)
    | fail)
  go_ret2
  exact ⟨rfl, HB2.out⟩
set_option maxRecDepth 100000 in
set_option maxHeartbeats 2000000 in
theorem of_many_f (n1 : Bool) (u1 : Value) (xs : List Int) (F : Nat) (w : World) (hr1 : Rd w u1 xs) (hf1 : Fit xs) (hg : goodB n1 xs = true) (hl : xs.length ≠ 1) (hP : P10R w) (hF1 : nanB F = false) (hF2 : F < 18446744073709551616) (hi : infB F = false)
    (hPF : ∀ W, Below w.heap.size w W → Calls Tryz.prog 115 #[.string (textB n1 xs), .int .i64 64] W fun r w' => (∃ v, r = .returned (.tuple #[.float .f64 F, v])) ∧ Below W.heap.size W w') :
    Calls Tryz.prog 87 #[.agg #[.bool n1, u1]] w (OfE (patB F) 0 w) := by
  have HS := Lib.hid (goodB_sgn (neg := n1) (ws := xs) hg hf1)
  obtain ⟨p, c, rfl, hc, hm, hp⟩ := rd_form hr1
  have hb1 : Below w.heap.size w (w.alloc (.cells #[.bool n1, .slice p xs.length c] 24)) := (Below.refl _ _).alloc (Nat.le_refl _) _
  have HG := Lib.hid (good_any n1 _ xs (w.alloc (.cells #[.bool n1, .slice p xs.length c] 24)) (hr1.keep hb1) hf1)
  have HB1 := Lib.hid hb1
  have HR := Lib.hid hr1
  have HX1 := Lib.hid (Box2.new w (.bool n1) (.slice p xs.length c) 24 rfl)
  obtain ⟨W1, hW1⟩ : ∃ x, w.alloc (.cells #[.bool n1, .slice p xs.length c] 24) = x := ⟨_, rfl⟩
  rw [hW1] at HB1 HG HX1
  rw [hg] at HG
  have c0 := HX1.out.c0
  have c1 := HX1.out.c1
  have HI := Lib.hid (fun W => isInf0 F hF2 hF1 W)
  have HPa := Lib.hid (fun W => pattern_any F W)
  have HPL := Lib.hid (patBl hF1 hF2)
  rw [hi] at HI
  have HPF := Lib.hid hPF
  have HP := Lib.hid hP
  have hl1 : (xs.length == 1) = false := beq_eq_false_iff_ne.2 hl
  have hl2 : ((xs.length : Int) == 1) = false := beq_eq_false_iff_ne.2 (by omega)
  have hl3 : ¬ (xs.length : Int) = 1 := by omega
  clear hr1 hf1 hb1 hp hg hi hPF hP hF1 hF2
  go_enter Tryz.func87, Tryz.ntmps87
  go_upto_region 3 with (first
    | (go_at_call 45; (try rw [hW1]); refine HG.out.mono ?_; rintro e w2 ⟨rfl, hb⟩; have HB2 := Lib.hid (HB1.out.trans (hb.mono HB1.out.size)); have d0 := below_cell hb c0; have d1 := below_cell hb c1; clear hb HG)
    | fail)
  clear c0 c1 hW1
  have HTX := Lib.hid (text_any n1 _ xs _ w2 (HR.out.keep HB2.out) HS.out.1 HS.out.2 (HP.out.keep HB2.out))
  go_wp2_with (first
    | (go_at_call 77; refine HTX.out.mono ?_; rintro e w3 ⟨rfl, hb3⟩; have HB3 := Lib.hid (HB2.out.trans (hb3.mono HB2.out.size)); clear hb3)
    | (go_at_call 115; (with_reducible refine (HPF.out _ HB3.out).mono ?_); rintro e w4 ⟨⟨v4, rfl⟩, hb4⟩; have HB4 := Lib.hid (HB3.out.trans (hb4.mono HB3.out.size)); clear hb4)
    | (go_at_call 68; (with_reducible refine (HI.out _).mono ?_); rintro e w9 ⟨rfl, rfl⟩)
    | (go_at_call 91; (with_reducible refine (HPa.out _).mono ?_); rintro e w9 ⟨rfl, rfl⟩)
    | fail)
  go_ret2
  exact ⟨rfl, HB4.out⟩
set_option maxRecDepth 100000 in
set_option maxHeartbeats 2000000 in
theorem of_many_i (n1 : Bool) (u1 : Value) (xs : List Int) (F : Nat) (w : World) (hr1 : Rd w u1 xs) (hf1 : Fit xs) (hg : goodB n1 xs = true) (hl : xs.length ≠ 1) (hP : P10R w) (hF1 : nanB F = false) (hF2 : F < 18446744073709551616) (hi : infB F = true)
    (hPF : ∀ W, Below w.heap.size w W → Calls Tryz.prog 115 #[.string (textB n1 xs), .int .i64 64] W fun r w' => (∃ v, r = .returned (.tuple #[.float .f64 F, v])) ∧ Below W.heap.size W w') :
    Calls Tryz.prog 87 #[.agg #[.bool n1, u1]] w (OfE 0 7 w) := by
  have HS := Lib.hid (goodB_sgn (neg := n1) (ws := xs) hg hf1)
  obtain ⟨p, c, rfl, hc, hm, hp⟩ := rd_form hr1
  have hb1 : Below w.heap.size w (w.alloc (.cells #[.bool n1, .slice p xs.length c] 24)) := (Below.refl _ _).alloc (Nat.le_refl _) _
  have HG := Lib.hid (good_any n1 _ xs (w.alloc (.cells #[.bool n1, .slice p xs.length c] 24)) (hr1.keep hb1) hf1)
  have HB1 := Lib.hid hb1
  have HR := Lib.hid hr1
  have HX1 := Lib.hid (Box2.new w (.bool n1) (.slice p xs.length c) 24 rfl)
  obtain ⟨W1, hW1⟩ : ∃ x, w.alloc (.cells #[.bool n1, .slice p xs.length c] 24) = x := ⟨_, rfl⟩
  rw [hW1] at HB1 HG HX1
  rw [hg] at HG
  have c0 := HX1.out.c0
  have c1 := HX1.out.c1
  have HI := Lib.hid (fun W => isInf0 F hF2 hF1 W)
  have HPa := Lib.hid (fun W => pattern_any F W)
  have HPL := Lib.hid (patBl hF1 hF2)
  rw [hi] at HI
  have HPF := Lib.hid hPF
  have HP := Lib.hid hP
  have hl1 : (xs.length == 1) = false := beq_eq_false_iff_ne.2 hl
  have hl2 : ((xs.length : Int) == 1) = false := beq_eq_false_iff_ne.2 (by omega)
  have hl3 : ¬ (xs.length : Int) = 1 := by omega
  clear hr1 hf1 hb1 hp hg hi hPF hP hF1 hF2
  go_enter Tryz.func87, Tryz.ntmps87
  go_upto_region 3 with (first
    | (go_at_call 45; (try rw [hW1]); refine HG.out.mono ?_; rintro e w2 ⟨rfl, hb⟩; have HB2 := Lib.hid (HB1.out.trans (hb.mono HB1.out.size)); have d0 := below_cell hb c0; have d1 := below_cell hb c1; clear hb HG)
    | fail)
  clear c0 c1 hW1
  have HTX := Lib.hid (text_any n1 _ xs _ w2 (HR.out.keep HB2.out) HS.out.1 HS.out.2 (HP.out.keep HB2.out))
  go_wp2_with (first
    | (go_at_call 77; refine HTX.out.mono ?_; rintro e w3 ⟨rfl, hb3⟩; have HB3 := Lib.hid (HB2.out.trans (hb3.mono HB2.out.size)); clear hb3)
    | (go_at_call 115; (with_reducible refine (HPF.out _ HB3.out).mono ?_); rintro e w4 ⟨⟨v4, rfl⟩, hb4⟩; have HB4 := Lib.hid (HB3.out.trans (hb4.mono HB3.out.size)); clear hb4)
    | (go_at_call 68; (with_reducible refine (HI.out _).mono ?_); rintro e w9 ⟨rfl, rfl⟩)
    | (go_at_call 91; (with_reducible refine (HPa.out _).mono ?_); rintro e w9 ⟨rfl, rfl⟩)
    | fail)
  go_ret2
  exact ⟨rfl, HB4.out⟩
theorem OfE.some {b : Nat} {x : Int} {w w' : World} {e : Ending} (hb : b < 18446744073709551616) (h : OfE b x w e w') : OfP w e w' := ⟨b, x, h.1, hb, h.2⟩
/-- The float of a number in form: of one limb, of more. -/
theorem realOf_good {hiT loT T : Nat → Nat} (hf : TBF hiT loT T) (tv : TypeId) (yv : Value) (n1 : Bool) (xs : List Int) (hf1 : Fit xs) (hg : goodB n1 xs = true) : ∃ F, nanB F = false ∧ F < 18446744073709551616 ∧ (xs.length = 1 → F = if n1 = true then floatOfInt .f64 (xs.getD 0 0) + fSG else floatOfInt .f64 (xs.getD 0 0)) ∧
    (xs.length ≠ 1 → ∀ W, PFT hiT loT T tv yv W W.heap.size → Calls Tryz.prog 115 #[.string (textB n1 xs), .int .i64 64] W fun r w' => (∃ v, r = .returned (.tuple #[.float .f64 F, v])) ∧ Below W.heap.size W w') ∧
    ∀ (u1 : Value) (w : World), Rd w u1 xs → P10R w → PFT hiT loT T tv yv w w.heap.size → Calls Tryz.prog 87 #[.agg #[.bool n1, u1]] w (OfE (if infB F = true then 0 else F) (if infB F = true then 7 else 0) w) := by
  by_cases hl : xs.length = 1
  · have hle := foi_le (xs.getD 0 0) (hf1 0).1
    obtain ⟨X, hX⟩ : ∃ X, floatOfInt .f64 (xs.getD 0 0) = X := ⟨_, rfl⟩
    rw [hX] at hle ⊢
    obtain ⟨f1, f2, f3, f4, f5⟩ := nn_le hle
    cases n1 with
    | false =>
      refine ⟨X, f1, f2, fun _ => by rw [if_neg (by decide)], fun h => absurd hl h, fun u1 w hr1 hP hT => ?_⟩
      have hp : patB X = X := by unfold patB; rw [f1, if_neg (by decide)]
      cases hi : infB X with
      | false =>
        have := of_one_p_f u1 xs X w hr1 hf1 hg hl hX hle hi
        rw [hp] at this
        rw [if_neg (by decide), if_neg (by decide)]
        exact this
      | true =>
        rw [if_pos rfl, if_pos rfl]
        exact of_one_p_i u1 xs X w hr1 hf1 hg hl hX hle hi
    | true =>
      obtain ⟨Y, hY⟩ : ∃ Y, X + fSG = Y := ⟨_, rfl⟩
      rw [hY] at f4 f5 ⊢
      refine ⟨Y, f4, f5, fun _ => by rw [if_pos rfl], fun h => absurd hl h, fun u1 w hr1 hP hT => ?_⟩
      have hp : patB Y = Y := by unfold patB; rw [f4, if_neg (by decide)]
      cases hi : infB Y with
      | false =>
        have := of_one_m_f u1 xs X w hr1 hf1 hg hl hX hle (by rw [hY]; exact hi)
        rw [hY, hp] at this
        rw [if_neg (by decide), if_neg (by decide)]
        exact this
      | true =>
        rw [if_pos rfl, if_pos rfl]
        exact of_one_m_i u1 xs X w hr1 hf1 hg hl hX hle (by rw [hY]; exact hi)
  · obtain ⟨hs, h30⟩ := goodB_sgn (neg := n1) (ws := xs) hg hf1
    obtain ⟨F, h1, h2, h3⟩ := pf_textB hf tv yv n1 xs hs.canon.1 h30
    refine ⟨F, h1, h2, fun h => absurd h hl, fun _ => h3, fun u1 w hr1 hP hT => ?_⟩
    have hPF : ∀ W, Below w.heap.size w W → Calls Tryz.prog 115 #[.string (textB n1 xs), .int .i64 64] W fun r w' => (∃ v, r = .returned (.tuple #[.float .f64 F, v])) ∧ Below W.heap.size W w' :=
      fun W hb => h3 W ((hT.keep hb).up hb.size)
    have hp : patB F = F := by unfold patB; rw [h1, if_neg (by decide)]
    cases hi : infB F with
    | false =>
      have := of_many_f n1 u1 xs F w hr1 hf1 hg hl hP h1 h2 hi hPF
      rw [hp] at this
      rw [if_neg (by decide), if_neg (by decide)]
      exact this
    | true =>
      rw [if_pos rfl, if_pos rfl]
      exact of_many_i n1 u1 xs F w hr1 hf1 hg hl hP h1 h2 hi hPF
end
section
open Go Go.ChangeShapes Go.WideShapes Go.RowKit Go.PlainAid
set_option linter.unusedVariables false
set_option linter.unusedSimpArgs false
end
section
open Go Go.ChangeShapes Go.WideShapes Go.ChangeAt Go.RowKit
set_option linter.unusedVariables false
set_option linter.unusedSimpArgs false
theorem of_pat {F : Nat} (h1 : nanB F = false) (h2 : F < 18446744073709551616) : patB (if infB F = true then 0 else F) = (if infB F = true then 0 else F) ∧ (if infB F = true then 0 else F) < 18446744073709551616 := by
  split
  · exact ⟨by decide +kernel, by decide⟩
  · exact ⟨by unfold patB; rw [h1, if_neg (by decide)], h2⟩
/-- real.Of: one answer. -/
theorem of_oneX {hiT loT T : Nat → Nat} (hft : TBF hiT loT T) (tv : TypeId) (yv : Value) (n1 : Bool) (xs : List Int) (hf1 : Fit xs) : ∃ (b : Nat) (x : Int), (patB b = b ∧ b < 18446744073709551616) ∧ ∀ (u1 : Value) (w : World), Rd w u1 xs → P10R w → PFT hiT loT T tv yv w w.heap.size →
    Calls Tryz.prog 87 #[.agg #[.bool n1, u1]] w (OfR b x w) := by
  cases hg : goodB n1 xs with
  | false => exact ⟨0, 3, ⟨by decide +kernel, by decide⟩, fun u1 w hr _ _ => of_bad n1 u1 xs w hr hf1 hg⟩
  | true =>
    obtain ⟨F, hF1, hF2, hF3, hF4, hF5⟩ := realOf_good hft tv yv n1 xs hf1 hg
    exact ⟨(if infB F = true then 0 else F), (if infB F = true then 7 else 0), of_pat hF1 hF2, fun u1 w hr hP hT => hF5 u1 w hr hP hT⟩
end
end Go.Proofs.YtpebnofjcodikaaGreatDoor
