/- real.Of: some float of a whole number. real.Of of any number: some float, or an error. Layer 3: floats and whole numbers that are equal have one hash: the law. -/
import Derived.Test.YtmfckhhmalogdaaGreatDoorPGWi
import Derived.Test.YtmfckhhmalogdaaGreatDoorPGPjE
import Derived.Test.YtmfckhhmalogdaaGreatDoorPGPiF
import Derived.Test.YtmfckhhmalogdaaGreatDoorPGRlW
import Derived.Test.YtmfckhhmalogdaaGreatDoorPGRlG
import Derived.Test.YtmfckhhmalogdaaGreatDoorPGRlZ
import Derived.Test.YtmfckhhmalogdaaGreatDoorPGRlL
import Derived.Deep.RegionHeld3
import Derived.Deep.CutBlock
import Derived.BigQuiet
namespace Go.Proofs.YtmfckhhmalogdaaGreatDoor
section
open Go Go.ChangeShapes Go.WideShapes Go.RowKit Go.PlainAid
set_option linter.unusedVariables false
set_option linter.unusedSimpArgs false
theorem txt_one (xs : List Int) : ∀ i, 1 ≤ (txt xs i).length
  | 0 => by
    rw [txt, Lib.decDigits_length]
    have := Lib.nDigits_pos (xs.getD (xs.length - 1) 0).toNat
    omega
  | i + 1 => by
    have := txt_one xs i
    rw [txt, List.length_append]; omega
theorem nml_dig {l : List UInt8} (hd : AllDig l) (h1 : 1 ≤ l.length) (h2 : l.length ≤ 1000) : Nml ⟨l.toArray⟩ l.length l.length 0 := by
  have hs := list_size l
  have hb : ∀ i, (h : i < l.length) → bt ⟨l.toArray⟩ i = ((l[i]'h).toNat : Int) := fun i h => bt_list _ (by rw [hs]; exact h)
  refine ⟨h1, Nat.le_refl _, by rw [hs]; exact Nat.le_refl _, by rw [hs]; exact h2, fun i hi => ?_, fun h => absurd h (Nat.lt_irrefl _), fun i h3 h4 => by omega, fun h => by rw [hs] at h; exact absurd h (Nat.lt_irrefl _), fun i h => by rw [hs] at h; exact absurd h (Nat.lt_irrefl _)⟩
  rw [hb i hi]
  have := hd _ (List.getElem_mem hi)
  omega
theorem nm1_dig {l : List UInt8} (hd : AllDig l) (h1 : 1 ≤ l.length) (h2 : l.length ≤ 999) : Nm1 ⟨(45 :: l).toArray⟩ (l.length + 1) (l.length + 1) 0 := by
  have hs : (⟨(45 :: l).toArray⟩ : ByteArray).size = l.length + 1 := list_size (45 :: l)
  have hb : ∀ i, (h : i < l.length + 1) → bt ⟨(45 :: l).toArray⟩ i = (((45 :: l)[i]'h).toNat : Int) := fun i h => bt_list _ (by rw [hs]; exact h)
  refine ⟨by rw [hb 0 (by omega)]; rfl, by omega, Nat.le_refl _, by rw [hs]; exact Nat.le_refl _, by rw [hs]; omega, fun i h3 h4 => ?_, fun h => absurd h (Nat.lt_irrefl _), fun i h3 h4 => by omega, fun h => by rw [hs] at h; exact absurd h (Nat.lt_irrefl _), fun i h => by rw [hs] at h; exact absurd h (Nat.lt_irrefl _)⟩
  rw [hb i h4]
  obtain ⟨k, rfl⟩ : ∃ k, i = k + 1 := ⟨i - 1, by omega⟩
  have := hd _ (List.getElem_mem (l := l) (n := k) (by omega))
  rw [List.getElem_cons_succ]
  omega
theorem mn_nn {F : Nat} (h : FMn F) : nanB F = false ∧ F < 18446744073709551616 := by
  obtain ⟨r, hr, rfl⟩ := h
  exact ⟨(mn_facts hr).2.2.1, (mn_facts hr).2.2.2⟩
/-- ParseFloat of the text of a number in form. -/
theorem pf_textB {hiT loT T : Nat → Nat} (hf : TBF hiT loT T) (tv : TypeId) (yv : Value) (neg : Bool) (xs : List Int) (hd : Dig B18 xs) (hl : xs.length ≤ 30) : ∃ F, nanB F = false ∧ F < 18446744073709551616 ∧ ∀ w, PFT hiT loT T tv yv w w.heap.size →
    Calls Tryz.prog 15 #[.string (textB neg xs), .int .i64 64] w fun r w' => (∃ v, r = .returned (.tuple #[.float .f64 F, v])) ∧ Below w.heap.size w w' := by
  unfold textB
  by_cases h0 : xs.length = 0
  · rw [if_pos h0]
    obtain ⟨F, h1, h2⟩ := pfl_any hf tv yv _ _ _ _ (nml_dig (l := [48]) (fun c hc => by simp at hc; subst hc; decide) (by decide) (by decide))
    exact ⟨F, (nn_le h1).1, (nn_le h1).2.1, h2⟩
  · rw [if_neg h0]
    have hlen := txt_len hd (xs.length - 1)
    have h1 := txt_one xs (xs.length - 1)
    cases neg with
    | false =>
      obtain ⟨F, h3, h4⟩ := pfl_any hf tv yv _ _ _ _ (nml_dig (txt_dig xs (xs.length - 1)) h1 (by omega))
      exact ⟨F, (nn_le h3).1, (nn_le h3).2.1, h4⟩
    | true =>
      obtain ⟨F, h3, h4⟩ := pflm_any hf tv yv _ _ _ _ (nm1_dig (txt_dig xs (xs.length - 1)) h1 (by omega))
      exact ⟨F, (mn_nn h3).1, (mn_nn h3).2, fun w hw => h4 w hw.t hw.e hw.el⟩
end
section
open Go Go.ChangeShapes Go.WideShapes Go.RowKit Ieee
set_option linter.unusedVariables false
set_option linter.unusedSimpArgs false
def OfP (w : World) (e : Ending) (w' : World) : Prop := ∃ (b : Nat) (x : Int), e = .returned (.tuple #[.int .u64 ((b : Nat) : Int), .int .i64 x]) ∧ b < 18446744073709551616 ∧ Below w.heap.size w w'
theorem foi_le (n : Int) (h : 0 ≤ n) : floatOfInt .f64 n ≤ fIN := by
  have e0 : floatOfInt .f64 n = double.nearest false n.natAbs 0 := by
    show double.nearest (decide (n < 0)) n.natAbs 0 = _
    rw [decide_eq_false (by omega)]
  rw [e0]; exact near_le _ _
theorem patBl {F : Nat} (hn : nanB F = false) (h : F < 18446744073709551616) : patB F < 18446744073709551616 := by
  unfold patB; rw [hn, if_neg (by decide)]; exact h
set_option maxRecDepth 100000 in
set_option maxHeartbeats 2000000 in
theorem of_bad (n1 : Bool) (u1 : Value) (xs : List Int) (w : World) (hr1 : Rd w u1 xs) (hf1 : Fit xs) (hg : goodB n1 xs = false) :
    Calls Tryz.prog 5 #[.agg #[.bool n1, u1]] w (OfP w) := by
  obtain ⟨p, c, rfl, hc, hm, hp⟩ := rd_form hr1
  have hb1 : Below w.heap.size w (w.alloc (.cells #[.bool n1, .slice p xs.length c] 25)) := (Below.refl _ _).alloc (Nat.le_refl _) _
  have HG := Lib.hid (good_any n1 _ xs (w.alloc (.cells #[.bool n1, .slice p xs.length c] 25)) (hr1.keep hb1) hf1)
  have HB1 := Lib.hid hb1
  have HX1 := Lib.hid (Box2.new w (.bool n1) (.slice p xs.length c) 25 rfl)
  obtain ⟨W1, hW1⟩ : ∃ x, w.alloc (.cells #[.bool n1, .slice p xs.length c] 25) = x := ⟨_, rfl⟩
  rw [hW1] at HB1 HG HX1
  rw [hg] at HG
  have c0 := HX1.out.c0
  have c1 := HX1.out.c1
  clear hr1 hf1 hb1 hp hg
  go_enter Tryz.func5, Tryz.ntmps5
  go_wp2_with (first
    | (go_at_call 14; (try rw [hW1]); refine HG.out.mono ?_; rintro e w2 ⟨rfl, hb⟩; have HB2 := Lib.hid (HB1.out.trans (hb.mono HB1.out.size)); clear hb HG)
    | fail)
  go_ret2
  exact ⟨0, 3, rfl, by decide, HB2.out⟩
set_option maxRecDepth 100000 in
set_option maxHeartbeats 2000000 in
theorem of_one_p_f (u1 : Value) (xs : List Int) (F : Nat) (w : World) (hr1 : Rd w u1 xs) (hf1 : Fit xs) (hg : goodB false xs = true) (hl : xs.length = 1) (hF : floatOfInt .f64 (xs.getD 0 0) = F) (hFl : F ≤ fIN) (hi : infB F = false) :
    Calls Tryz.prog 5 #[.agg #[.bool false, u1]] w (OfP w) := by
  obtain ⟨f1, f2, f3, f4, f5⟩ := nn_le hFl
  obtain ⟨p, c, rfl, hc, hm, hp⟩ := rd_form hr1
  obtain ⟨bb, off, rfl, hcell⟩ := hp (by omega)
  have h0 := hcell 0 (by omega)
  rw [Nat.add_zero] at h0
  obtain ⟨x0, hx0⟩ : ∃ x0, xs.getD 0 0 = x0 := ⟨_, rfl⟩
  rw [hx0] at h0 hF
  rw [hl] at *
  have hb1 : Below w.heap.size w (w.alloc (.cells #[.bool false, .slice (some ⟨bb, off, none⟩) 1 c] 25)) := (Below.refl _ _).alloc (Nat.le_refl _) _
  have HG := Lib.hid (good_any false (.slice (some ⟨bb, off, none⟩) 1 c) xs (w.alloc (.cells #[.bool false, .slice (some ⟨bb, off, none⟩) 1 c] 25)) (hr1.keep hb1) hf1)
  have HB1 := Lib.hid hb1
  have HX1 := Lib.hid (Box2.new w (.bool false) (.slice (some ⟨bb, off, none⟩) 1 c) 25 rfl)
  have HK := Lib.hid h0
  obtain ⟨W1, hW1⟩ : ∃ x, w.alloc (.cells #[.bool false, .slice (some ⟨bb, off, none⟩) 1 c] 25) = x := ⟨_, rfl⟩
  rw [hW1] at HB1 HG HX1
  rw [hg] at HG
  have c0 := HX1.out.c0
  have c1 := HX1.out.c1
  have HI := Lib.hid (fun W => isInf0 F f2 f1 W)
  have HPa := Lib.hid (fun W => pattern_any F W)
  have HPL := Lib.hid (patBl f1 f2)
  rw [hi] at HI
  have HFF := Lib.hid hF
  clear hr1 hf1 hb1 hp hg hcell hl hi f1 f2 f3 f4 f5 hF h0 hFl hx0 hc hm
  go_enter Tryz.func5, Tryz.ntmps5
  go_upto_region 3 with (first
    | (go_at_call 14; (try rw [hW1]); refine HG.out.mono ?_; rintro e w2 ⟨rfl, hb⟩; have HB2 := Lib.hid (HB1.out.trans (hb.mono HB1.out.size)); have d0 := below_cell hb c0; have d1 := below_cell hb c1; clear hb HG)
    | fail)
  have k0 := below_cell HB2.out HK.out
  have hF := HFF.out
  clear c0 c1 hW1
  go_wp2_with (first
    | (go_at_call 17; (try rw [hF]); (with_reducible refine (HI.out _).mono ?_); rintro e w9 ⟨rfl, rfl⟩)
    | (go_at_call 18; (try rw [hF]); (with_reducible refine (HPa.out _).mono ?_); rintro e w9 ⟨rfl, rfl⟩)
    | fail)
  go_ret2
  exact ⟨_, _, rfl, HPL.out, HB2.out⟩
set_option maxRecDepth 100000 in
set_option maxHeartbeats 2000000 in
theorem of_one_p_i (u1 : Value) (xs : List Int) (F : Nat) (w : World) (hr1 : Rd w u1 xs) (hf1 : Fit xs) (hg : goodB false xs = true) (hl : xs.length = 1) (hF : floatOfInt .f64 (xs.getD 0 0) = F) (hFl : F ≤ fIN) (hi : infB F = true) :
    Calls Tryz.prog 5 #[.agg #[.bool false, u1]] w (OfP w) := by
  obtain ⟨f1, f2, f3, f4, f5⟩ := nn_le hFl
  obtain ⟨p, c, rfl, hc, hm, hp⟩ := rd_form hr1
  obtain ⟨bb, off, rfl, hcell⟩ := hp (by omega)
  have h0 := hcell 0 (by omega)
  rw [Nat.add_zero] at h0
  obtain ⟨x0, hx0⟩ : ∃ x0, xs.getD 0 0 = x0 := ⟨_, rfl⟩
  rw [hx0] at h0 hF
  rw [hl] at *
  have hb1 : Below w.heap.size w (w.alloc (.cells #[.bool false, .slice (some ⟨bb, off, none⟩) 1 c] 25)) := (Below.refl _ _).alloc (Nat.le_refl _) _
  have HG := Lib.hid (good_any false (.slice (some ⟨bb, off, none⟩) 1 c) xs (w.alloc (.cells #[.bool false, .slice (some ⟨bb, off, none⟩) 1 c] 25)) (hr1.keep hb1) hf1)
  have HB1 := Lib.hid hb1
  have HX1 := Lib.hid (Box2.new w (.bool false) (.slice (some ⟨bb, off, none⟩) 1 c) 25 rfl)
  have HK := Lib.hid h0
  obtain ⟨W1, hW1⟩ : ∃ x, w.alloc (.cells #[.bool false, .slice (some ⟨bb, off, none⟩) 1 c] 25) = x := ⟨_, rfl⟩
  rw [hW1] at HB1 HG HX1
  rw [hg] at HG
  have c0 := HX1.out.c0
  have c1 := HX1.out.c1
  have HI := Lib.hid (fun W => isInf0 F f2 f1 W)
  have HPa := Lib.hid (fun W => pattern_any F W)
  have HPL := Lib.hid (patBl f1 f2)
  rw [hi] at HI
  have HFF := Lib.hid hF
  clear hr1 hf1 hb1 hp hg hcell hl hi f1 f2 f3 f4 f5 hF h0 hFl hx0 hc hm
  go_enter Tryz.func5, Tryz.ntmps5
  go_upto_region 3 with (first
    | (go_at_call 14; (try rw [hW1]); refine HG.out.mono ?_; rintro e w2 ⟨rfl, hb⟩; have HB2 := Lib.hid (HB1.out.trans (hb.mono HB1.out.size)); have d0 := below_cell hb c0; have d1 := below_cell hb c1; clear hb HG)
    | fail)
  have k0 := below_cell HB2.out HK.out
  have hF := HFF.out
  clear c0 c1 hW1
  go_wp2_with (first
    | (go_at_call 17; (try rw [hF]); (with_reducible refine (HI.out _).mono ?_); rintro e w9 ⟨rfl, rfl⟩)
    | (go_at_call 18; (try rw [hF]); (with_reducible refine (HPa.out _).mono ?_); rintro e w9 ⟨rfl, rfl⟩)
    | fail)
  go_ret2
  exact ⟨_, _, rfl, by decide, HB2.out⟩
set_option maxRecDepth 100000 in
set_option maxHeartbeats 2000000 in
theorem of_one_m_f (u1 : Value) (xs : List Int) (F : Nat) (w : World) (hr1 : Rd w u1 xs) (hf1 : Fit xs) (hg : goodB true xs = true) (hl : xs.length = 1) (hF : floatOfInt .f64 (xs.getD 0 0) = F) (hFl : F ≤ fIN) (hi : infB (F + fSG) = false) :
    Calls Tryz.prog 5 #[.agg #[.bool true, u1]] w (OfP w) := by
  obtain ⟨f1, f2, f3, f4, f5⟩ := nn_le hFl
  obtain ⟨p, c, rfl, hc, hm, hp⟩ := rd_form hr1
  obtain ⟨bb, off, rfl, hcell⟩ := hp (by omega)
  have h0 := hcell 0 (by omega)
  rw [Nat.add_zero] at h0
  obtain ⟨x0, hx0⟩ : ∃ x0, xs.getD 0 0 = x0 := ⟨_, rfl⟩
  rw [hx0] at h0 hF
  rw [hl] at *
  have hb1 : Below w.heap.size w (w.alloc (.cells #[.bool true, .slice (some ⟨bb, off, none⟩) 1 c] 25)) := (Below.refl _ _).alloc (Nat.le_refl _) _
  have HG := Lib.hid (good_any true (.slice (some ⟨bb, off, none⟩) 1 c) xs (w.alloc (.cells #[.bool true, .slice (some ⟨bb, off, none⟩) 1 c] 25)) (hr1.keep hb1) hf1)
  have HB1 := Lib.hid hb1
  have HX1 := Lib.hid (Box2.new w (.bool true) (.slice (some ⟨bb, off, none⟩) 1 c) 25 rfl)
  have HK := Lib.hid h0
  obtain ⟨W1, hW1⟩ : ∃ x, w.alloc (.cells #[.bool true, .slice (some ⟨bb, off, none⟩) 1 c] 25) = x := ⟨_, rfl⟩
  rw [hW1] at HB1 HG HX1
  rw [hg] at HG
  have c0 := HX1.out.c0
  have c1 := HX1.out.c1
  have hng : ∀ W, (Op.unary UnOp.neg (.float .f64 F)).run Tryz.prog W = .ok (.float .f64 (F + fSG)) W := fun W => by
    have := run_neg F f2 f1 W
    rw [f3] at this
    exact this
  have HI := Lib.hid (fun W => isInf0 (F + fSG) f5 f4 W)
  have HPa := Lib.hid (fun W => pattern_any (F + fSG) W)
  have HPL := Lib.hid (patBl f4 f5)
  rw [hi] at HI
  generalize F + fSG = G at hng HI HPa HPL hi f4 f5 ⊢
  have HFF := Lib.hid hF
  clear hr1 hf1 hb1 hp hg hcell hl hi f1 f2 f3 f4 f5 hF h0 hFl hx0 hc hm
  go_enter Tryz.func5, Tryz.ntmps5
  go_upto_region 3 with (first
    | (go_at_call 14; (try rw [hW1]); refine HG.out.mono ?_; rintro e w2 ⟨rfl, hb⟩; have HB2 := Lib.hid (HB1.out.trans (hb.mono HB1.out.size)); have d0 := below_cell hb c0; have d1 := below_cell hb c1; clear hb HG)
    | fail)
  have k0 := below_cell HB2.out HK.out
  have hF := HFF.out
  clear c0 c1 hW1
  go_wp2_with (first
    | (go_at_call 17; (try rw [hF]); (with_reducible refine (HI.out _).mono ?_); rintro e w9 ⟨rfl, rfl⟩)
    | (go_at_call 18; (try rw [hF]); (with_reducible refine (HPa.out _).mono ?_); rintro e w9 ⟨rfl, rfl⟩)
    | fail)
  go_ret2
  exact ⟨_, _, rfl, HPL.out, HB2.out⟩
set_option maxRecDepth 100000 in
set_option maxHeartbeats 2000000 in
theorem of_one_m_i (u1 : Value) (xs : List Int) (F : Nat) (w : World) (hr1 : Rd w u1 xs) (hf1 : Fit xs) (hg : goodB true xs = true) (hl : xs.length = 1) (hF : floatOfInt .f64 (xs.getD 0 0) = F) (hFl : F ≤ fIN) (hi : infB (F + fSG) = true) :
    Calls Tryz.prog 5 #[.agg #[.bool true, u1]] w (OfP w) := by
  obtain ⟨f1, f2, f3, f4, f5⟩ := nn_le hFl
  obtain ⟨p, c, rfl, hc, hm, hp⟩ := rd_form hr1
  obtain ⟨bb, off, rfl, hcell⟩ := hp (by omega)
  have h0 := hcell 0 (by omega)
  rw [Nat.add_zero] at h0
  obtain ⟨x0, hx0⟩ : ∃ x0, xs.getD 0 0 = x0 := ⟨_, rfl⟩
  rw [hx0] at h0 hF
  rw [hl] at *
  have hb1 : Below w.heap.size w (w.alloc (.cells #[.bool true, .slice (some ⟨bb, off, none⟩) 1 c] 25)) := (Below.refl _ _).alloc (Nat.le_refl _) _
  have HG := Lib.hid (good_any true (.slice (some ⟨bb, off, none⟩) 1 c) xs (w.alloc (.cells #[.bool true, .slice (some ⟨bb, off, none⟩) 1 c] 25)) (hr1.keep hb1) hf1)
  have HB1 := Lib.hid hb1
  have HX1 := Lib.hid (Box2.new w (.bool true) (.slice (some ⟨bb, off, none⟩) 1 c) 25 rfl)
  have HK := Lib.hid h0
  obtain ⟨W1, hW1⟩ : ∃ x, w.alloc (.cells #[.bool true, .slice (some ⟨bb, off, none⟩) 1 c] 25) = x := ⟨_, rfl⟩
  rw [hW1] at HB1 HG HX1
  rw [hg] at HG
  have c0 := HX1.out.c0
  have c1 := HX1.out.c1
  have hng : ∀ W, (Op.unary UnOp.neg (.float .f64 F)).run Tryz.prog W = .ok (.float .f64 (F + fSG)) W := fun W => by
    have := run_neg F f2 f1 W
    rw [f3] at this
    exact this
  have HI := Lib.hid (fun W => isInf0 (F + fSG) f5 f4 W)
  have HPa := Lib.hid (fun W => pattern_any (F + fSG) W)
  have HPL := Lib.hid (patBl f4 f5)
  rw [hi] at HI
  generalize F + fSG = G at hng HI HPa HPL hi f4 f5 ⊢
  have HFF := Lib.hid hF
  clear hr1 hf1 hb1 hp hg hcell hl hi f1 f2 f3 f4 f5 hF h0 hFl hx0 hc hm
  go_enter Tryz.func5, Tryz.ntmps5
  go_upto_region 3 with (first
    | (go_at_call 14; (try rw [hW1]); refine HG.out.mono ?_; rintro e w2 ⟨rfl, hb⟩; have HB2 := Lib.hid (HB1.out.trans (hb.mono HB1.out.size)); have d0 := below_cell hb c0; have d1 := below_cell hb c1; clear hb HG)
    | fail)
  have k0 := below_cell HB2.out HK.out
  have hF := HFF.out
  clear c0 c1 hW1
  go_wp2_with (first
    | (go_at_call 17; (try rw [hF]); (with_reducible refine (HI.out _).mono ?_); rintro e w9 ⟨rfl, rfl⟩)
    | (go_at_call 18; (try rw [hF]); (with_reducible refine (HPa.out _).mono ?_); rintro e w9 ⟨rfl, rfl⟩)
    | fail)
  go_ret2
  exact ⟨_, _, rfl, by decide, HB2.out⟩
set_option maxRecDepth 100000 in
set_option maxHeartbeats 2000000 in
theorem of_many_f (n1 : Bool) (u1 : Value) (xs : List Int) (F : Nat) (w : World) (hr1 : Rd w u1 xs) (hf1 : Fit xs) (hg : goodB n1 xs = true) (hl : xs.length ≠ 1) (hP : P10R w) (hF1 : nanB F = false) (hF2 : F < 18446744073709551616) (hi : infB F = false)
    (hPF : ∀ W, Below w.heap.size w W → Calls Tryz.prog 15 #[.string (textB n1 xs), .int .i64 64] W fun r w' => (∃ v, r = .returned (.tuple #[.float .f64 F, v])) ∧ Below W.heap.size W w') :
    Calls Tryz.prog 5 #[.agg #[.bool n1, u1]] w (OfP w) := by
  have HS := Lib.hid (goodB_sgn (neg := n1) (ws := xs) hg hf1)
  obtain ⟨p, c, rfl, hc, hm, hp⟩ := rd_form hr1
  have hb1 : Below w.heap.size w (w.alloc (.cells #[.bool n1, .slice p xs.length c] 25)) := (Below.refl _ _).alloc (Nat.le_refl _) _
  have HG := Lib.hid (good_any n1 _ xs (w.alloc (.cells #[.bool n1, .slice p xs.length c] 25)) (hr1.keep hb1) hf1)
  have HB1 := Lib.hid hb1
  have HR := Lib.hid hr1
  have HX1 := Lib.hid (Box2.new w (.bool n1) (.slice p xs.length c) 25 rfl)
  obtain ⟨W1, hW1⟩ : ∃ x, w.alloc (.cells #[.bool n1, .slice p xs.length c] 25) = x := ⟨_, rfl⟩
  rw [hW1] at HB1 HG HX1
  rw [hg] at HG
  have c0 := HX1.out.c0
  have c1 := HX1.out.c1
  have HI := Lib.hid (fun W => isInf0 F hF2 hF1 W)
  have HPa := Lib.hid (fun W => pattern_any F W)
  have HPL := Lib.hid (patBl hF1 hF2)
  rw [hi] at HI
  have HPF := Lib.hid hPF
  have HP := Lib.hid hP
  have hl1 : (xs.length == 1) = false := beq_eq_false_iff_ne.2 hl
  have hl2 : ((xs.length : Int) == 1) = false := beq_eq_false_iff_ne.2 (by omega)
  have hl3 : ¬ (xs.length : Int) = 1 := by omega
  clear hr1 hf1 hb1 hp hg hi hPF hP hF1 hF2
  go_enter Tryz.func5, Tryz.ntmps5
  go_upto_region 3 with (first
    | (go_at_call 14; (try rw [hW1]); refine HG.out.mono ?_; rintro e w2 ⟨rfl, hb⟩; have HB2 := Lib.hid (HB1.out.trans (hb.mono HB1.out.size)); have d0 := below_cell hb c0; have d1 := below_cell hb c1; clear hb HG)
    | fail)
  clear c0 c1 hW1
  have HTX := Lib.hid (text_any n1 _ xs _ w2 (HR.out.keep HB2.out) HS.out.1 HS.out.2 (HP.out.keep HB2.out))
  go_wp2_with (first
    | (go_at_call 16; refine HTX.out.mono ?_; rintro e w3 ⟨rfl, hb3⟩; have HB3 := Lib.hid (HB2.out.trans (hb3.mono HB2.out.size)); clear hb3)
    | (go_at_call 15; (with_reducible refine (HPF.out _ HB3.out).mono ?_); rintro e w4 ⟨⟨v4, rfl⟩, hb4⟩; have HB4 := Lib.hid (HB3.out.trans (hb4.mono HB3.out.size)); clear hb4)
    | (go_at_call 17; (with_reducible refine (HI.out _).mono ?_); rintro e w9 ⟨rfl, rfl⟩)
    | (go_at_call 18; (with_reducible refine (HPa.out _).mono ?_); rintro e w9 ⟨rfl, rfl⟩)
    | fail)
  go_ret2
  exact ⟨_, _, rfl, HPL.out, HB4.out⟩
set_option maxRecDepth 100000 in
set_option maxHeartbeats 2000000 in
theorem of_many_i (n1 : Bool) (u1 : Value) (xs : List Int) (F : Nat) (w : World) (hr1 : Rd w u1 xs) (hf1 : Fit xs) (hg : goodB n1 xs = true) (hl : xs.length ≠ 1) (hP : P10R w) (hF1 : nanB F = false) (hF2 : F < 18446744073709551616) (hi : infB F = true)
    (hPF : ∀ W, Below w.heap.size w W → Calls Tryz.prog 15 #[.string (textB n1 xs), .int .i64 64] W fun r w' => (∃ v, r = .returned (.tuple #[.float .f64 F, v])) ∧ Below W.heap.size W w') :
    Calls Tryz.prog 5 #[.agg #[.bool n1, u1]] w (OfP w) := by
  have HS := Lib.hid (goodB_sgn (neg := n1) (ws := xs) hg hf1)
  obtain ⟨p, c, rfl, hc, hm, hp⟩ := rd_form hr1
  have hb1 : Below w.heap.size w (w.alloc (.cells #[.bool n1, .slice p xs.length c] 25)) := (Below.refl _ _).alloc (Nat.le_refl _) _
  have HG := Lib.hid (good_any n1 _ xs (w.alloc (.cells #[.bool n1, .slice p xs.length c] 25)) (hr1.keep hb1) hf1)
  have HB1 := Lib.hid hb1
  have HR := Lib.hid hr1
  have HX1 := Lib.hid (Box2.new w (.bool n1) (.slice p xs.length c) 25 rfl)
  obtain ⟨W1, hW1⟩ : ∃ x, w.alloc (.cells #[.bool n1, .slice p xs.length c] 25) = x := ⟨_, rfl⟩
  rw [hW1] at HB1 HG HX1
  rw [hg] at HG
  have c0 := HX1.out.c0
  have c1 := HX1.out.c1
  have HI := Lib.hid (fun W => isInf0 F hF2 hF1 W)
  have HPa := Lib.hid (fun W => pattern_any F W)
  have HPL := Lib.hid (patBl hF1 hF2)
  rw [hi] at HI
  have HPF := Lib.hid hPF
  have HP := Lib.hid hP
  have hl1 : (xs.length == 1) = false := beq_eq_false_iff_ne.2 hl
  have hl2 : ((xs.length : Int) == 1) = false := beq_eq_false_iff_ne.2 (by omega)
  have hl3 : ¬ (xs.length : Int) = 1 := by omega
  clear hr1 hf1 hb1 hp hg hi hPF hP hF1 hF2
  go_enter Tryz.func5, Tryz.ntmps5
  go_upto_region 3 with (first
    | (go_at_call 14; (try rw [hW1]); refine HG.out.mono ?_; rintro e w2 ⟨rfl, hb⟩; have HB2 := Lib.hid (HB1.out.trans (hb.mono HB1.out.size)); have d0 := below_cell hb c0; have d1 := below_cell hb c1; clear hb HG)
    | fail)
  clear c0 c1 hW1
  have HTX := Lib.hid (text_any n1 _ xs _ w2 (HR.out.keep HB2.out) HS.out.1 HS.out.2 (HP.out.keep HB2.out))
  go_wp2_with (first
    | (go_at_call 16; refine HTX.out.mono ?_; rintro e w3 ⟨rfl, hb3⟩; have HB3 := Lib.hid (HB2.out.trans (hb3.mono HB2.out.size)); clear hb3)
    | (go_at_call 15; (with_reducible refine (HPF.out _ HB3.out).mono ?_); rintro e w4 ⟨⟨v4, rfl⟩, hb4⟩; have HB4 := Lib.hid (HB3.out.trans (hb4.mono HB3.out.size)); clear hb4)
    | (go_at_call 17; (with_reducible refine (HI.out _).mono ?_); rintro e w9 ⟨rfl, rfl⟩)
    | (go_at_call 18; (with_reducible refine (HPa.out _).mono ?_); rintro e w9 ⟨rfl, rfl⟩)
    | fail)
  go_ret2
  exact ⟨_, _, rfl, by decide, HB4.out⟩
theorem realOf_any {hiT loT T : Nat → Nat} (hf : TBF hiT loT T) (tv : TypeId) (yv : Value) (n1 : Bool) (u1 : Value) (xs : List Int) (w : World) (hr1 : Rd w u1 xs) (hf1 : Fit xs) (hP : P10R w) (hT : PFT hiT loT T tv yv w w.heap.size) :
    Calls Tryz.prog 5 #[.agg #[.bool n1, u1]] w (OfP w) := by
  cases hg : goodB n1 xs with
  | false => exact of_bad n1 u1 xs w hr1 hf1 hg
  | true =>
    by_cases hl : xs.length = 1
    · have hle := foi_le (xs.getD 0 0) (hf1 0).1
      cases n1 with
      | false =>
        cases hi : infB (floatOfInt .f64 (xs.getD 0 0)) with
        | false => exact of_one_p_f u1 xs _ w hr1 hf1 hg hl rfl hle hi
        | true => exact of_one_p_i u1 xs _ w hr1 hf1 hg hl rfl hle hi
      | true =>
        cases hi : infB (floatOfInt .f64 (xs.getD 0 0) + fSG) with
        | false => exact of_one_m_f u1 xs _ w hr1 hf1 hg hl rfl hle hi
        | true => exact of_one_m_i u1 xs _ w hr1 hf1 hg hl rfl hle hi
    · obtain ⟨hs, h30⟩ := goodB_sgn (neg := n1) (ws := xs) hg hf1
      obtain ⟨F, h1, h2, h3⟩ := pf_textB hf tv yv n1 xs hs.canon.1 h30
      have hPF : ∀ W, Below w.heap.size w W → Calls Tryz.prog 15 #[.string (textB n1 xs), .int .i64 64] W fun r w' => (∃ v, r = .returned (.tuple #[.float .f64 F, v])) ∧ Below W.heap.size W w' :=
        fun W hb => h3 W ((hT.keep hb).up hb.size)
      cases hi : infB F with
      | false => exact of_many_f n1 u1 xs F w hr1 hf1 hg hl hP h1 h2 hi hPF
      | true => exact of_many_i n1 u1 xs F w hr1 hf1 hg hl hP h1 h2 hi hPF
end
section
open Go Go.ChangeShapes Go.WideShapes Go.ChangeAt Go.RowKit
set_option linter.unusedVariables false
set_option linter.unusedSimpArgs false
set_option maxRecDepth 100000 in
theorem whole_infA (b : Nat) (hb : b < 18446744073709551616) (hn : nanB b = false) (hi : infB b = true) (w : World) :
    Calls Tryz.prog 9 #[.int .u64 (b : Int)] w fun e w' => e = .returned (.tuple #[.agg #[.bool false, .slice none 0 0], .int .i64 7]) ∧ Below w.heap.size w w' := by
  have HNn := Lib.hid (fun W => isNaN_any b W)
  rw [hn] at HNn
  have HIn := Lib.hid (isInf0 b hb hn)
  rw [hi] at HIn
  clear hi hn hb
  go_enter Tryz.func9, Tryz.ntmps9
  go_wp2_with (first
    | (go_at_call 19; (with_reducible refine (number_any b _).mono ?_); rintro e w9 ⟨rfl, rfl⟩)
    | (go_at_call 20; (with_reducible refine (HNn.out _).mono ?_); rintro e w9 ⟨rfl, rfl⟩)
    | (go_at_call 17; (with_reducible refine (HIn.out _).mono ?_); rintro e w9 ⟨rfl, rfl⟩)
    | fail)
  have z := Box2.new w (.bool false) (.slice none 0 0) 25 rfl
  have z1 := z.c0
  have z2 := z.c1
  exact bodyPost_ret (v := .tuple #[.agg #[.bool false, .slice none 0 0], .int .i64 7]) (by simp [results, Tryz.results9, go_sem, z1, z2]) rfl ⟨rfl, (Below.refl _ _).alloc (Nat.le_refl _) _⟩
set_option maxRecDepth 100000 in
theorem whole_nanA (b : Nat) (hn : nanB b = true) (w : World) :
    Calls Tryz.prog 9 #[.int .u64 (b : Int)] w fun e w' => e = .returned (.tuple #[.agg #[.bool false, .slice none 0 0], .int .i64 1]) ∧ Below w.heap.size w w' := by
  have HNn := Lib.hid (fun W => isNaN_any b W)
  rw [hn] at HNn
  clear hn
  go_enter Tryz.func9, Tryz.ntmps9
  go_wp2_with (first
    | (go_at_call 19; (with_reducible refine (number_any b _).mono ?_); rintro e w9 ⟨rfl, rfl⟩)
    | (go_at_call 20; (with_reducible refine (HNn.out _).mono ?_); rintro e w9 ⟨rfl, rfl⟩)
    | fail)
  have z := Box2.new w (.bool false) (.slice none 0 0) 25 rfl
  have z1 := z.c0
  have z2 := z.c1
  exact bodyPost_ret (v := .tuple #[.agg #[.bool false, .slice none 0 0], .int .i64 1]) (by simp [results, Tryz.results9, go_sem, z1, z2]) rfl ⟨rfl, (Below.refl _ _).alloc (Nat.le_refl _) _⟩
/-- Some number, and an error. -/
def WPost (W : World) (e : Ending) (w' : World) : Prop := ∃ n p c ws x, e = .returned (.tuple #[.agg #[.bool n, .slice p (List.length ws) c], .int .i64 x]) ∧ Rd w' (.slice p ws.length c) ws ∧ Fit ws ∧ Below W.heap.size W w'
theorem whole_some (b : Nat) (hb : b < 18446744073709551616) (w : World) : Calls Tryz.prog 9 #[.int .u64 (b : Int)] w (WPost w) := by
  have f0 : Fit [] := fun i => by simp
  cases hn : nanB b with
  | true =>
    refine (whole_nanA b hn w).mono ?_
    rintro e w' ⟨rfl, hw⟩
    exact ⟨false, none, 0, [], 1, rfl, .inl ⟨none, rfl, rfl⟩, f0, hw⟩
  | false =>
    cases hi : infB b with
    | true =>
      refine (whole_infA b hb hn hi w).mono ?_
      rintro e w' ⟨rfl, hw⟩
      exact ⟨false, none, 0, [], 7, rfl, .inl ⟨none, rfl, rfl⟩, f0, hw⟩
    | false =>
      refine (whole_any b hb hn hi w).mono ?_
      rintro e w' ⟨n, p, c, ws, rfl, h1, h2, h3⟩
      exact ⟨n, p, c, ws, 0, rfl, h1, h2.canon.fit, h3⟩
set_option maxRecDepth 100000 in
set_option maxHeartbeats 4000000 in
theorem law_agree0 (a b : Nat) (ha : a < 18446744073709551616) (hb : b < 18446744073709551616) (n1 : Bool) (u1 : Value) (xs : List Int) (w : World) (hr1 : Rd w u1 xs) (hf1 : Fit xs) (ht : PT w) (hp : P10R w) (hOF : ∀ W, Below w.heap.size w W → Calls Tryz.prog 5 #[.agg #[.bool n1, u1]] W (OfP W)) :
    Calls Tryz.prog 3 #[.int .u64 (a : Int), .int .u64 (b : Int), .agg #[.bool n1, u1]] w fun e w' => e = .returned (.bool true) ∧ Below w.heap.size w w' := by
  obtain ⟨p, c, rfl, hc, hm, hpp⟩ := rd_form hr1
  have hb1 : Below w.heap.size w (w.alloc (.cells #[.bool n1, .slice p xs.length c] 25)) := (Below.refl _ _).alloc (Nat.le_refl _) _
  have c0 : (w.alloc (.cells #[.bool n1, .slice p xs.length c] 25)).cell? ⟨w.heap.size, 0, none⟩ = some (.bool n1) := by simp
  have c1 : (w.alloc (.cells #[.bool n1, .slice p xs.length c] 25)).cell? ⟨w.heap.size, 1, none⟩ = some (.slice p xs.length c) := by simp
  have HK := Lib.hid (known03 _ (ht.keep hb1) (hp.keep hb1))
  have HR := Lib.hid hr1
  have HF := Lib.hid hf1
  have HA := Lib.hid ha
  have HBB := Lib.hid hb
  have HB := Lib.hid hb1
  have HOF := Lib.hid hOF
  have HG := Lib.hid (fun f => @agree_big f n1 xs hf1)
  clear hOF ht hp hr1 hf1 ha hb hpp hb1
  go_enter Tryz.func3, Tryz.ntmps3
  obtain ⟨W1, hW1⟩ : ∃ x, w.alloc (.cells #[.bool n1, .slice p xs.length c] 25) = x := ⟨_, rfl⟩
  rw [hW1] at c0 c1 HK HB
  go_upto_region 3 with (first
    | (go_at_call 4; (try rw [hW1]); (with_reducible refine HK.out.mono ?_); rintro e w2 ⟨rfl, hbx⟩; have d0 := below_cell hbx c0; have d1 := below_cell hbx c1; have HB2 := Lib.hid (HB.out.trans (hbx.mono HB.out.size)); clear hbx)
    | fail)
  clear c0 c1 HK HB hW1
  go_upto_if 24 with (first
    | (go_at_call 5; (with_reducible refine (HOF.out _ HB2.out).mono ?_); rintro e w3 ⟨bf, ex, rfl, hbf, hbx⟩; have e0 := below_cell hbx d0; have e1 := below_cell hbx d1; have HB3 := Lib.hid (HB2.out.trans (hbx.mono HB2.out.size)); have HBF := Lib.hid hbf; clear hbx hbf)
    | fail)
  go_cut [9, 10] from 24 to 42 (fun s9 s10 wx => Below w.heap.size w wx ∧ wx.cell? ⟨w.heap.size, 0, none⟩ = some (.bool n1) ∧ wx.cell? ⟨w.heap.size, 1, none⟩ = some (.slice p xs.length c))
  case first =>
    by_cases hx : ex = 0
    · subst hx
      obtain ⟨okb, hok⟩ : ∃ o, cbB bf n1 xs = o := ⟨_, rfl⟩
      obtain ⟨cv, hcv⟩ : ∃ o, cbV bf n1 xs = o := ⟨_, rfl⟩
      have HCB := Lib.hid (cmpBig_any bf HBF.out n1 (.slice p xs.length c) xs w3 (HR.out.keep HB3.out) HF.out)
      have HGG := Lib.hid (HG.out bf)
      rw [hok, hcv] at HCB HGG
      clear hok hcv d0 d1
      go_upto_region 6 with (first
        | (go_at_call 6; (with_reducible refine HCB.out.mono ?_); rintro e w4 ⟨rfl, hbx⟩; have f0 := below_cell hbx e0; have f1 := below_cell hbx e1; have HB4 := Lib.hid (HB3.out.trans (hbx.mono HB3.out.size)); clear hbx)
        | fail)
      clear e0 e1
      cases okb with
      | false =>
        go_quiet (fail)
        go_wp2_with fail
        go_meet
        exact ⟨below_drewN HB4.out _, by simpa using f0, by simpa using f1⟩
      | true =>
        by_cases hc0 : cv = 0
        · subst hc0
          have hh := HGG.out rfl rfl
          obtain ⟨H, hH⟩ : ∃ H, hashV bf = H := ⟨_, rfl⟩
          have HH1 := Lib.hid (hash_any bf HBF.out)
          have HH2 := Lib.hid (fun W (h : Below w.heap.size w W) => hashBig_any n1 (.slice p xs.length c) xs W (HR.out.keep h) HF.out)
          rw [← hh] at HH2
          rw [hH] at HH1 HH2
          clear hh hH
          have hbm := HB4.out.size
          go_region_held3 (fun w' => w'.cell? ⟨w.heap.size, 0, none⟩ = some (.bool n1) ∧ w'.cell? ⟨w.heap.size, 1, none⟩ = some (.slice p xs.length c)) (first | ((repeat' (first | assumption | apply And.intro)); done) | fail) (first
            | (go_at_call 7; (with_reducible refine (HH1.out _).mono ?_); rintro e w9 ⟨rfl, rfl⟩)
            | (go_at_call 8; (with_reducible refine (HH2.out _ HB4.out.drew).mono ?_); rintro e w5 ⟨rfl, hbx⟩; have g0 := below_cell (W := w4.drew) hbx f0; have g1 := below_cell (W := w4.drew) hbx f1; have HB5 := Lib.hid (HB4.out.drew.trans (hbx.mono HB4.out.size)); clear hbx)
            | fail)
          go_wp2_with fail
          go_meet
          exact ⟨HB5.out, g0, g1⟩
        · have hcB : (cv == 0) = false := beq_eq_false_iff_ne.2 hc0
          go_quiet (fail)
          go_wp2_with fail
          go_meet
          exact ⟨below_drewN HB4.out _, by simpa using f0, by simpa using f1⟩
    · have hxB : (ex == 0) = false := beq_eq_false_iff_ne.2 hx
      go_wp2_with fail
      go_meet
      exact ⟨HB3.out, e0, e1⟩
  case rest =>
    obtain ⟨hB5, c0, c1⟩ := hcut
    have HB5 := Lib.hid hB5
    clear hB5 HB3 e0 e1 d0 d1
    have HW := Lib.hid (fun W => whole_some a HA.out W)
    go_upto_if 49 with (first
      | (go_at_call 9; (with_reducible refine (HW.out _).mono ?_); rintro e w6 ⟨n2, p2, k2, ys, x2, rfl, hr2, hf2, hbx⟩; have HB6 := Lib.hid (HB5.out.trans (hbx.mono HB5.out.size)); have HR2 := Lib.hid hr2; have HF2 := Lib.hid hf2; clear hbx hr2 hf2)
      | fail)
    generalize hw7 : w6.alloc _ = w7
    have HB7 := Lib.hid (show Below w.heap.size w w7 by rw [← hw7]; exact HB6.out.alloc HB6.out.size _)
    have HR7 := Lib.hid (show Rd w7 (.slice p2 ys.length k2) ys by rw [← hw7]; exact HR2.out.keep ((Below.refl _ _).alloc (Nat.le_refl _) _))
    have c0 : w7.cell? ⟨w6.heap.size, 0, none⟩ = some (.bool n2) := by rw [← hw7]; simp
    have c1 : w7.cell? ⟨w6.heap.size, 1, none⟩ = some (.slice p2 ys.length k2) := by rw [← hw7]; simp
    have hlt7 : w6.heap.size < w7.heap.size := by rw [← hw7]; simp
    generalize w6.heap.size = q at c0 c1 hlt7 ⊢
    clear hw7 HB6 HR2 HB5
    have HG2 := Lib.hid (@agree_big a n2 ys HF2.out)
    go_cut [12, 13] from 49 to 67 (fun s12 s13 wx => Below w.heap.size w wx)
    case first =>
      by_cases hx : x2 = 0
      · subst hx
        obtain ⟨okb, hok⟩ : ∃ o, cbB a n2 ys = o := ⟨_, rfl⟩
        obtain ⟨cv, hcv⟩ : ∃ o, cbV a n2 ys = o := ⟨_, rfl⟩
        have HCB := Lib.hid (cmpBig_any a HA.out n2 (.slice p2 ys.length k2) ys w7 HR7.out HF2.out)
        have HGG := Lib.hid HG2.out
        rw [hok, hcv] at HCB HGG
        clear hok hcv
        go_upto_region 11 with (first
          | (go_at_call 6; (with_reducible refine HCB.out.mono ?_); rintro e w4 ⟨rfl, hbx⟩; have f0 := below_cell hbx c0; have f1 := below_cell hbx c1; have HB8 := Lib.hid (HB7.out.trans (hbx.mono HB7.out.size)); have HR8 := Lib.hid (HR7.out.keep hbx); clear hbx)
          | fail)
        clear c0 c1
        cases okb with
        | false =>
          go_quiet (fail)
          go_wp2_with fail
          go_meet
          exact below_drewN HB8.out _
        | true =>
          by_cases hc0 : cv = 0
          · subst hc0
            have hh := HGG.out rfl rfl
            obtain ⟨H, hH⟩ : ∃ H, hashV a = H := ⟨_, rfl⟩
            have HH1 := Lib.hid (hash_any a HA.out)
            have HH2 := Lib.hid (hashBig_any n2 (.slice p2 ys.length k2) ys w4.drew (HR8.out.keep (Below.refl _ _).drew) HF2.out)
            rw [← hh] at HH2
            rw [hH] at HH1 HH2
            clear hh hH
            go_region_held3 (fun w' => w'.cell? ⟨q, 0, none⟩ = some (.bool n2) ∧ w'.cell? ⟨q, 1, none⟩ = some (.slice p2 ys.length k2)) (first | ((repeat' (first | assumption | apply And.intro)); done) | fail) (first
              | (go_at_call 7; (with_reducible refine (HH1.out _).mono ?_); rintro e w9 ⟨rfl, rfl⟩)
              | (go_at_call 8; (with_reducible refine HH2.out.mono ?_); rintro e w5 ⟨rfl, hbx⟩; have g0 := below_cell (W := w4.drew) hbx f0; have g1 := below_cell (W := w4.drew) hbx f1; have HB9 := Lib.hid (HB8.out.drew.trans (hbx.mono HB8.out.size)); clear hbx)
              | fail)
            go_wp2_with fail
            go_meet
            exact HB9.out
          · have hcB : (cv == 0) = false := beq_eq_false_iff_ne.2 hc0
            go_quiet (fail)
            go_wp2_with fail
            go_meet
            exact below_drewN HB8.out _
      · have hxB : (x2 == 0) = false := beq_eq_false_iff_ne.2 hx
        go_wp2_with fail
        go_meet
        exact HB7.out
    case rest =>
      have HB8 := Lib.hid hcut
      clear hcut HB7 HR7 c0 c1 hlt7
      obtain ⟨okb, hok⟩ : ∃ o, cmB a b = o := ⟨_, rfl⟩
      obtain ⟨cv, hcv⟩ : ∃ o, cmV a b = o := ⟨_, rfl⟩
      have HCM := Lib.hid (fun W => cmp_any a b W)
      have HGG := Lib.hid (fun h1 h2 => (@cm_zero a b HA.out HBB.out h1 h2).1)
      rw [hok, hcv] at HCM HGG
      clear hok hcv
      have HH1 := Lib.hid (hash_any a HA.out)
      have HH2 := Lib.hid (hash_any b HBB.out)
      cases okb with
      | false =>
        go_wp2_with (first
          | (go_at_call 10; (with_reducible refine (HCM.out _).mono ?_); rintro e w9 ⟨rfl, rfl⟩)
          | fail)
        go_ret
        exact ⟨by first | rfl | simp, HB8.out⟩
      | true =>
        by_cases hc0 : cv = 0
        · subst hc0
          have hh := HGG.out rfl rfl
          rw [← hh] at HH2
          clear hh
          go_wp2_with (first
            | (go_at_call 10; (with_reducible refine (HCM.out _).mono ?_); rintro e w9 ⟨rfl, rfl⟩)
            | (go_at_call 7; first | ((with_reducible refine (HH1.out _).mono ?_); rintro e w9 ⟨rfl, rfl⟩) | ((with_reducible refine (HH2.out _).mono ?_); rintro e w9 ⟨rfl, rfl⟩))
            | fail)
          go_ret
          exact ⟨by first | rfl | simp, HB8.out⟩
        · have hcB : (cv == 0) = false := beq_eq_false_iff_ne.2 hc0
          have hcC : (cv != 0) = true := bne_iff_ne.2 hc0
          go_wp2_with (first
            | (go_at_call 10; (with_reducible refine (HCM.out _).mono ?_); rintro e w9 ⟨rfl, rfl⟩)
            | fail)
          go_ret
          exact ⟨by first | rfl | simp, HB8.out⟩
/-- The law. -/
theorem law_agree {hiT loT T : Nat → Nat} (hft : TBF hiT loT T) (tv : TypeId) (yv : Value) (a b : Nat) (ha : a < 18446744073709551616) (hb : b < 18446744073709551616) (n1 : Bool) (u1 : Value) (xs : List Int) (w : World) (hr1 : Rd w u1 xs) (hf1 : Fit xs) (ht : PT w) (hp : P10R w) (hT : PFT hiT loT T tv yv w w.heap.size) :
    Calls Tryz.prog 3 #[.int .u64 (a : Int), .int .u64 (b : Int), .agg #[.bool n1, u1]] w fun e w' => e = .returned (.bool true) ∧ Below w.heap.size w w' :=
  law_agree0 a b ha hb n1 u1 xs w hr1 hf1 ht hp (fun W h => realOf_any hft tv yv n1 _ xs W (hr1.keep h) hf1 (hp.keep h) ((hT.keep h).up h.size))
end
end Go.Proofs.YtmfckhhmalogdaaGreatDoor
