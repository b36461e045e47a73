/- The document's Of and Whole. Layer 3: every Of and Whole: the law. -/
import Derived.Test.YtbhommcpgejbfaaGreatDoorPGWi
import Derived.Test.YtbhommcpgejbfaaGreatDoorPGRlC
import Derived.Test.YtbhommcpgejbfaaGreatDoorPGRlW
import Derived.Test.YtbhommcpgejbfaaGreatDoorPGWg
import Derived.Test.YtbhommcpgejbfaaGreatDoorPGRlG
import Derived.Test.YtbhommcpgejbfaaGreatDoorPGOf
import Derived.Test.YtbhommcpgejbfaaGreatDoorPGRlZ
namespace Go.Proofs.YtbhommcpgejbfaaGreatDoor
section
open Go Go.ChangeShapes Go.WideShapes Go.ChangeAt Go.RowKit
set_option linter.unusedVariables false
set_option linter.unusedSimpArgs false
def OfR (b : Nat) (x : Int) (w : World) (e : Ending) (w' : World) : Prop := e = .returned (.tuple #[.int .u64 ((b : Nat) : Int), .int .i64 x]) ∧ Below w.heap.size w w'
set_option maxRecDepth 100000 in
set_option maxHeartbeats 2000000 in
theorem dof_bad (n1 : Bool) (u1 : Value) (xs : List Int) (w : World) (hr1 : Rd w u1 xs) (hf1 : Fit xs) (hg : goodB n1 xs = false) :
    Calls Tryz.prog 5 #[.agg #[.bool n1, u1]] w (OfR 0 3 w) := by
  obtain ⟨p, c, rfl, hc, hm, hp⟩ := rd_form hr1
  have hb1 : Below w.heap.size w (w.alloc (.cells #[.bool n1, .slice p xs.length c] 25)) := (Below.refl _ _).alloc (Nat.le_refl _) _
  have HG := Lib.hid (refgood_any n1 _ xs (w.alloc (.cells #[.bool n1, .slice p xs.length c] 25)) (hr1.keep hb1) hf1)
  have HB1 := Lib.hid hb1
  have HX1 := Lib.hid (Box2.new w (.bool n1) (.slice p xs.length c) 25 rfl)
  obtain ⟨W1, hW1⟩ : ∃ x, w.alloc (.cells #[.bool n1, .slice p xs.length c] 25) = x := ⟨_, rfl⟩
  rw [hW1] at HB1 HG HX1
  rw [hg] at HG
  have c0 := HX1.out.c0
  have c1 := HX1.out.c1
  clear hr1 hf1 hb1 hp hg
  go_enter Tryz.func5, Tryz.ntmps5
  go_wp2_with (first
    | (go_at_call 15; (try rw [hW1]); refine HG.out.mono ?_; rintro e w2 ⟨rfl, hb⟩; have HB2 := Lib.hid (HB1.out.trans (hb.mono HB1.out.size)); clear hb HG)
    | fail)
  go_ret2
  exact ⟨rfl, HB2.out⟩
set_option maxRecDepth 100000 in
set_option maxHeartbeats 2000000 in
theorem dof_good (n1 : Bool) (u1 : Value) (xs : List Int) (F : Nat) (w : World) (hr1 : Rd w u1 xs) (hf1 : Fit xs) (hg : goodB n1 xs = true) (hF2 : F < 18446744073709551616)
    (hPF : ∀ W, Below w.heap.size w W → Calls Tryz.prog 11 #[.string (textB n1 xs), .int .i64 64] W fun r w' => (∃ v, r = .returned (.tuple #[.float .f64 F, v])) ∧ Below W.heap.size W w') :
    Calls Tryz.prog 5 #[.agg #[.bool n1, u1]] w (OfR (if infB F = true then 0 else F) (if infB F = true then 7 else 0) w) := by
  obtain ⟨hS, hL⟩ := goodB_sgn (neg := n1) (ws := xs) hg hf1
  have HON := Lib.hid (fun W (h : Below w.heap.size w W) => ofnum_at (V := w) (wx := W) hr1 hS hL h)
  obtain ⟨p, c, rfl, hc, hm, hp⟩ := rd_form hr1
  have hb1 : Below w.heap.size w (w.alloc (.cells #[.bool n1, .slice p xs.length c] 25)) := (Below.refl _ _).alloc (Nat.le_refl _) _
  have HG := Lib.hid (refgood_any n1 _ xs (w.alloc (.cells #[.bool n1, .slice p xs.length c] 25)) (hr1.keep hb1) hf1)
  have HB1 := Lib.hid hb1
  have HX1 := Lib.hid (Box2.new w (.bool n1) (.slice p xs.length c) 25 rfl)
  obtain ⟨W1, hW1⟩ : ∃ x, w.alloc (.cells #[.bool n1, .slice p xs.length c] 25) = x := ⟨_, rfl⟩
  rw [hW1] at HB1 HG HX1
  rw [hg] at HG
  have c0 := HX1.out.c0
  have c1 := HX1.out.c1
  have HSH := Lib.hid (fun (wx : World) (u : Value) (ds : List Int) (hr : Rb wx u ds) (hd : Dig 10 ds) (hl : ds.length ≤ 540) (hsh : showB n1 ds = textB n1 xs) (hx : Below w.heap.size w wx) => show_at (V := w) hr hd hl hsh hx)
  have HPF := Lib.hid hPF
  have HI := Lib.hid (risInf_any F hF2)
  obtain ⟨fi, hfi⟩ : ∃ fi, infB F = fi := ⟨_, rfl⟩
  rw [hfi] at HI ⊢
  clear hr1 hf1 hb1 hp hg hPF hS hL hF2 hfi
  go_enter Tryz.func5, Tryz.ntmps5
  go_upto_region 3 with (first
    | (go_at_call 15; (try rw [hW1]); refine HG.out.mono ?_; rintro e w2 ⟨rfl, hb⟩; have HB2 := Lib.hid (HB1.out.trans (hb.mono HB1.out.size)); have d0 := below_cell hb c0; have d1 := below_cell hb c1; clear hb HG)
    | fail)
  clear c0 c1 hW1
  cases fi
  all_goals
    go_wp2_with (first
      | (go_at_call 17; refine (HON.out _ HB2.out).mono ?_; rintro e w3 ⟨p3, k3, ds, rfl, hrb, hd, hl, hsh, hb3, _⟩; have HB3 := Lib.hid hb3; have HS3 := Lib.hid (HSH.out w3 _ ds hrb hd hl hsh hb3); clear hb3 hrb hd hl hsh)
      | (go_at_call 16; refine HS3.out.mono ?_; rintro e w4 ⟨rfl, hb4⟩; have HB4 := Lib.hid hb4; clear hb4)
      | (go_at_call 11; (with_reducible refine (HPF.out _ HB4.out).mono ?_); rintro e w5 ⟨⟨v5, rfl⟩, hb5⟩; have HB5 := Lib.hid (HB4.out.trans (hb5.mono HB4.out.size)); clear hb5)
      | (go_at_call 19; (with_reducible refine (HI.out _).mono ?_); rintro e w9 ⟨rfl, rfl⟩)
      | fail)
    go_ret2
    exact ⟨rfl, HB5.out⟩
set_option maxRecDepth 100000 in
theorem dwh_nan (b : Nat) (hb : b < 18446744073709551616) (hn : nanB b = true) (w : World) :
    Calls Tryz.prog 8 #[.int .u64 (b : Int)] w fun e w' => e = .returned (.tuple #[.agg #[.bool false, .slice none 0 0], .int .i64 1]) ∧ Below w.heap.size w w' := by
  have HN := Lib.hid (risNaN_any b hb)
  rw [hn] at HN
  go_enter Tryz.func8, Tryz.ntmps8
  go_wp2_with (first
    | (go_at_call 33; (with_reducible refine (HN.out _).mono ?_); rintro e w9 ⟨rfl, rfl⟩)
    | fail)
  have z := Box2.new w (.bool false) (.slice none 0 0) 25 rfl
  have z1 := z.c0
  have z2 := z.c1
  exact bodyPost_ret (v := .tuple #[.agg #[.bool false, .slice none 0 0], .int .i64 1]) (by simp [results, Tryz.results8, go_sem, z1, z2]) rfl ⟨rfl, (Below.refl _ _).alloc (Nat.le_refl _) _⟩
set_option maxRecDepth 100000 in
theorem dwh_inf (b : Nat) (hb : b < 18446744073709551616) (hn : nanB b = false) (hi : infB b = true) (w : World) :
    Calls Tryz.prog 8 #[.int .u64 (b : Int)] w fun e w' => e = .returned (.tuple #[.agg #[.bool false, .slice none 0 0], .int .i64 7]) ∧ Below w.heap.size w w' := by
  have HN := Lib.hid (risNaN_any b hb)
  rw [hn] at HN
  have HI := Lib.hid (risInf_any b hb)
  rw [hi] at HI
  clear hn hi
  go_enter Tryz.func8, Tryz.ntmps8
  go_wp2_with (first
    | (go_at_call 33; (with_reducible refine (HN.out _).mono ?_); rintro e w9 ⟨rfl, rfl⟩)
    | (go_at_call 19; (with_reducible refine (HI.out _).mono ?_); rintro e w9 ⟨rfl, rfl⟩)
    | fail)
  have z := Box2.new w (.bool false) (.slice none 0 0) 25 rfl
  have z1 := z.c0
  have z2 := z.c1
  exact bodyPost_ret (v := .tuple #[.agg #[.bool false, .slice none 0 0], .int .i64 7]) (by simp [results, Tryz.results8, go_sem, z1, z2]) rfl ⟨rfl, (Below.refl _ _).alloc (Nat.le_refl _) _⟩
set_option maxRecDepth 100000 in
set_option maxHeartbeats 2000000 in
theorem dwh_fin (b : Nat) (hb : b < 18446744073709551616) (hn : nanB b = false) (hi : infB b = false) (w : World) :
    Calls Tryz.prog 8 #[.int .u64 (b : Int)] w (WholePost w (trZ b)) := by
  have HN := Lib.hid (risNaN_any b hb)
  have HI := Lib.hid (risInf_any b hb)
  have HC := Lib.hid (rcut_any b hb hn hi)
  rw [hn] at HN
  rw [hi] at HI
  clear hn hi
  go_enter Tryz.func8, Tryz.ntmps8
  obtain ⟨W1, hW1⟩ : ∃ x, w.alloc (.cells #[.bool false, .slice none 0 0] 25) = x := ⟨_, rfl⟩
  have HB1 := Lib.hid (show Below w.heap.size w W1 by rw [← hW1]; exact (Below.refl _ _).alloc (Nat.le_refl _) _)
  have HX1 := Lib.hid (show Box2 W1 w.heap.size (.bool false) (.slice none 0 0) by rw [← hW1]; exact Box2.new _ _ _ _ rfl)
  go_wp2_with (first
    | (go_at_call 33; (with_reducible refine (HN.out _).mono ?_); rintro e w9 ⟨rfl, rfl⟩)
    | (go_at_call 19; (with_reducible refine (HI.out _).mono ?_); rintro e w9 ⟨rfl, rfl⟩)
    | (go_at_call 34; (try rw [hW1]); (with_reducible refine (HC.out _).mono ?_); rintro e w3 ⟨n3, p3, c3, ds, rfl, hr3, hs3, hb3⟩; have HX3 := Lib.hid (HX1.out.keep hb3); have HB3 := Lib.hid (HB1.out.trans (hb3.mono HB1.out.size)); have HR3 := Lib.hid hr3; have HS3 := Lib.hid hs3; clear hb3 hr3 hs3)
    | fail)
  have HL3 := Lib.hid (HS3.out.fits.2 (trZ_small b))
  generalize hw4 : w3.alloc _ = w4
  have hb34 : Below w3.heap.size w3 w4 := by rw [← hw4]; exact (Below.refl _ _).alloc (Nat.le_refl _) _
  have HX4 := Lib.hid (HX3.out.keep hb34)
  have HB4 := Lib.hid (HB3.out.trans (hb34.mono HB3.out.size))
  have HR4 := Lib.hid (HR3.out.keep hb34)
  clear hb34 hw4
  refine (to_any n3 _ ds (trZ b) w4 HR4.out HS3.out (by have := HL3.out; omega)).mono ?_
  rintro e w5 ⟨n, u, ws, rfl, hM, hS, hB⟩
  have hlen := hS.small.2 (trZ_small b)
  have hR := hM.rd (by omega)
  obtain ⟨p, c, rfl⟩ := hM.form
  have HR := Lib.hid hR
  have HS := Lib.hid hS
  have HB := Lib.hid (HB4.out.trans (hB.mono HB4.out.size))
  have hb2 := HX4.out.keep hB
  have c0 := hb2.c0
  have c1 := hb2.c1
  have f0 := hb2.f0
  have f1 := hb2.f1
  have HX := Lib.hid hb2
  clear hR hS hB hM hb2
  go_wp2_with fail
  have z2 := two_setW (x0 := .bool n) (x1 := .slice p ws.length c) HX.out.c0 HX.out.c1
  refine bodyPost_ret (v := .tuple #[.agg #[.bool n, .slice p ws.length c], .int .i64 0]) (by simp [results, Tryz.results8, go_sem, z2.1, z2.2]) rfl ⟨n, p, c, ws, rfl, HR.out.putN HX.out _ _, HS.out, ?_⟩
  exact (HB.out.setCell (Nat.le_refl _) _).setCell (Nat.le_refl _) _
end
section
open Go Go.ChangeShapes Go.WideShapes Go.ChangeAt Go.RowKit
set_option linter.unusedVariables false
set_option linter.unusedSimpArgs false
theorem textB_one (neg : Bool) (xs : List Int) (hl : xs.length = 1) : textB neg xs = txS neg (xs.getD 0 0).toNat := by
  unfold textB txS
  rw [if_neg (by omega), hl]
  show (⟨((if neg = true then [45] else []) ++ Lib.decDigits (xs.getD (xs.length - 1) 0).toNat).toArray⟩ : ByteArray) = _
  rw [hl]
/-- Both sides' Of: one answer. -/
theorem of_two {hiT loT T : Nat → Nat} (hft : TBF hiT loT T) (h3 : hiT 348 = 9223372036854775808) (h4 : loT 348 = 0) (tv : TypeId) (yv : Value) (n1 : Bool) (xs : List Int) (hf1 : Fit xs) : ∃ (b : Nat) (x : Int), ∀ (u1 : Value) (w : World), Rd w u1 xs → P10R w → PFT hiT loT T tv yv w w.heap.size →
    Calls Tryz.prog 4 #[.agg #[.bool n1, u1]] w (OfR b x w) ∧ Calls Tryz.prog 5 #[.agg #[.bool n1, u1]] w (OfR b x w) := by
  cases hg : goodB n1 xs with
  | false => exact ⟨0, 3, fun u1 w hr _ _ => ⟨of_bad n1 u1 xs w hr hf1 hg, dof_bad n1 u1 xs w hr hf1 hg⟩⟩
  | true =>
    obtain ⟨F, hF1, hF2, hF3, hF4, hF5⟩ := realOf_good hft tv yv n1 xs hf1 hg
    refine ⟨(if infB F = true then 0 else F), (if infB F = true then 7 else 0), fun u1 w hr hP hT => ⟨hF5 u1 w hr hP hT, dof_good n1 u1 xs F w hr hf1 hg hF2 fun W hb => ?_⟩⟩
    by_cases hl : xs.length = 1
    · obtain ⟨hs, h30⟩ := goodB_sgn (neg := n1) (ws := xs) hg hf1
      have hd := hs.canon.1 0
      have ht : xs.getD 0 0 ≠ 0 := by
        have := hs.canon.2 (by omega)
        rw [hl] at this
        exact this
      rw [B18] at hd
      have hP := pfs_any hft h3 h4 tv yv n1 (xs.getD 0 0).toNat (by omega) (by omega) W ((hT.keep hb).up hb.size)
      rw [textB_one n1 xs hl]
      have hx : (((xs.getD 0 0).toNat : Nat) : Int) = xs.getD 0 0 := by omega
      have hE : sgF n1 (xs.getD 0 0).toNat = F := by
        rw [hF3 hl]
        unfold sgF
        rw [hx]
        cases n1
        · rw [if_neg (by decide), if_neg (by decide)]
        · rw [if_pos rfl, if_pos rfl]; exact Nat.add_comm _ _
      rw [hE] at hP
      exact hP
    · exact hF4 hl W ((hT.keep hb).up hb.size)
/-- A number, and an error. -/
def WhX (z x : Int) (W : World) (e : Ending) (w' : World) : Prop :=
  ∃ n p c ws, e = .returned (.tuple #[.agg #[.bool n, .slice p (List.length ws) c], .int .i64 x]) ∧ Rd w' (.slice p ws.length c) ws ∧ Sgn B18 n ws z ∧ Below W.heap.size W w'
set_option maxRecDepth 100000 in
theorem wh_infB (b : Nat) (hb : b < 18446744073709551616) (hn : nanB b = false) (hi : infB b = true) (w : World) :
    Calls Tryz.prog 7 #[.int .u64 (b : Int)] w fun e w' => e = .returned (.tuple #[.agg #[.bool false, .slice none 0 0], .int .i64 7]) ∧ Below w.heap.size w w' := by
  have HNn := Lib.hid (fun W => isNaN_any b W)
  rw [hn] at HNn
  have HIn := Lib.hid (isInf0 b hb hn)
  rw [hi] at HIn
  clear hi hn hb
  go_enter Tryz.func7, Tryz.ntmps7
  go_wp2_with (first
    | (go_at_call 23; (with_reducible refine (number_any b _).mono ?_); rintro e w9 ⟨rfl, rfl⟩)
    | (go_at_call 24; (with_reducible refine (HNn.out _).mono ?_); rintro e w9 ⟨rfl, rfl⟩)
    | (go_at_call 13; (with_reducible refine (HIn.out _).mono ?_); rintro e w9 ⟨rfl, rfl⟩)
    | fail)
  have z := Box2.new w (.bool false) (.slice none 0 0) 25 rfl
  have z1 := z.c0
  have z2 := z.c1
  exact bodyPost_ret (v := .tuple #[.agg #[.bool false, .slice none 0 0], .int .i64 7]) (by simp [results, Tryz.results7, go_sem, z1, z2]) rfl ⟨rfl, (Below.refl _ _).alloc (Nat.le_refl _) _⟩
set_option maxRecDepth 100000 in
theorem wh_nanB (b : Nat) (hn : nanB b = true) (w : World) :
    Calls Tryz.prog 7 #[.int .u64 (b : Int)] w fun e w' => e = .returned (.tuple #[.agg #[.bool false, .slice none 0 0], .int .i64 1]) ∧ Below w.heap.size w w' := by
  have HNn := Lib.hid (fun W => isNaN_any b W)
  rw [hn] at HNn
  clear hn
  go_enter Tryz.func7, Tryz.ntmps7
  go_wp2_with (first
    | (go_at_call 23; (with_reducible refine (number_any b _).mono ?_); rintro e w9 ⟨rfl, rfl⟩)
    | (go_at_call 24; (with_reducible refine (HNn.out _).mono ?_); rintro e w9 ⟨rfl, rfl⟩)
    | fail)
  have z := Box2.new w (.bool false) (.slice none 0 0) 25 rfl
  have z1 := z.c0
  have z2 := z.c1
  exact bodyPost_ret (v := .tuple #[.agg #[.bool false, .slice none 0 0], .int .i64 1]) (by simp [results, Tryz.results7, go_sem, z1, z2]) rfl ⟨rfl, (Below.refl _ _).alloc (Nat.le_refl _) _⟩
theorem wh_two (b : Nat) (hb : b < 18446744073709551616) : ∃ z x, ∀ w, Calls Tryz.prog 7 #[.int .u64 (b : Int)] w (WhX z x w) ∧ Calls Tryz.prog 8 #[.int .u64 (b : Int)] w (WhX z x w) := by
  have hz : Sgn B18 false [] 0 := Sgn.zero (by decide)
  cases hn : nanB b with
  | true =>
    refine ⟨0, 1, fun w => ⟨(wh_nanB b hn w).mono ?_, (dwh_nan b hb hn w).mono ?_⟩⟩
    · rintro e w' ⟨rfl, hw⟩; exact ⟨false, none, 0, [], rfl, .inl ⟨none, rfl, rfl⟩, hz, hw⟩
    · rintro e w' ⟨rfl, hw⟩; exact ⟨false, none, 0, [], rfl, .inl ⟨none, rfl, rfl⟩, hz, hw⟩
  | false =>
    cases hi : infB b with
    | true =>
      refine ⟨0, 7, fun w => ⟨(wh_infB b hb hn hi w).mono ?_, (dwh_inf b hb hn hi w).mono ?_⟩⟩
      · rintro e w' ⟨rfl, hw⟩; exact ⟨false, none, 0, [], rfl, .inl ⟨none, rfl, rfl⟩, hz, hw⟩
      · rintro e w' ⟨rfl, hw⟩; exact ⟨false, none, 0, [], rfl, .inl ⟨none, rfl, rfl⟩, hz, hw⟩
    | false => exact ⟨trZ b, 0, fun w => ⟨whole_any b hb hn hi w, dwh_fin b hb hn hi w⟩⟩
set_option maxRecDepth 100000 in
set_option maxHeartbeats 4000000 in
theorem law_wholes0 (b : Nat) (hb : b < 18446744073709551616) (n1 : Bool) (u1 : Value) (xs : List Int) (B0 : Nat) (X0 : Int) (w : World) (hr1 : Rd w u1 xs) (hf1 : Fit xs) (ht : PT w) (hp : P10R w)
    (hOF : ∀ W, Below w.heap.size w W → Calls Tryz.prog 4 #[.agg #[.bool n1, u1]] W (OfR B0 X0 W) ∧ Calls Tryz.prog 5 #[.agg #[.bool n1, u1]] W (OfR B0 X0 W)) :
    Calls Tryz.prog 3 #[.int .u64 (b : Int), .agg #[.bool n1, u1]] w fun e w' => e = .returned (.bool true) ∧ Below w.heap.size w w' := by
  obtain ⟨z, x, hwh⟩ := wh_two b hb
  obtain ⟨p, c, rfl, hc, hm, hpp⟩ := rd_form hr1
  have hb1 : Below w.heap.size w (w.alloc (.cells #[.bool n1, .slice p xs.length c] 25)) := (Below.refl _ _).alloc (Nat.le_refl _) _
  have c0 : (w.alloc (.cells #[.bool n1, .slice p xs.length c] 25)).cell? ⟨w.heap.size, 0, none⟩ = some (.bool n1) := by simp
  have c1 : (w.alloc (.cells #[.bool n1, .slice p xs.length c] 25)).cell? ⟨w.heap.size, 1, none⟩ = some (.slice p xs.length c) := by simp
  have HK := Lib.hid (fun W (h : Below w.heap.size w W) => known03 W (ht.keep h) (hp.keep h))
  have HOF := Lib.hid hOF
  have HW := Lib.hid hwh
  have HB := Lib.hid hb1
  clear ht hp hr1 hf1 hb hpp hb1 hOF hwh
  go_enter Tryz.func3, Tryz.ntmps3
  obtain ⟨W1, hW1⟩ : ∃ x, w.alloc (.cells #[.bool n1, .slice p xs.length c] 25) = x := ⟨_, rfl⟩
  rw [hW1] at c0 c1 HB
  go_upto_region 2 with (first
    | (go_at_call 4; (try rw [hW1]); refine (HOF.out _ HB.out).1.mono ?_; rintro e w2 ⟨rfl, hbx⟩; have d0 := below_cell hbx c0; have d1 := below_cell hbx c1; have HB2 := Lib.hid (HB.out.trans (hbx.mono HB.out.size)); clear hbx)
    | fail)
  clear c0 c1 HB hW1
  go_upto_region 5 with (first
    | (go_at_call 5; refine (HOF.out _ HB2.out).2.mono ?_; rintro e w3 ⟨rfl, hbx⟩; have HB3 := Lib.hid (HB2.out.trans (hbx.mono HB2.out.size)); clear hbx)
    | (go_at_call 6; (with_reducible refine (HK.out _ HB3.out).mono ?_); rintro e w4 ⟨rfl, hbx⟩; have HB4 := Lib.hid (HB3.out.trans (hbx.mono HB3.out.size)); clear hbx)
    | fail)
  clear d0 d1
  go_upto_region 6 with (first
    | (go_at_call 7; refine (HW.out _).1.mono ?_; rintro e w5 ⟨m1, q1, k1, ys, rfl, hr5, hs5, hbx⟩; have HB5 := Lib.hid (HB4.out.trans (hbx.mono HB4.out.size)); have HR5 := Lib.hid hr5; have HS5 := Lib.hid hs5; clear hbx hr5 hs5)
    | fail)
  generalize hw6 : w5.alloc _ = w6
  have hb56 : Below w5.heap.size w5 w6 := by rw [← hw6]; exact (Below.refl _ _).alloc (Nat.le_refl _) _
  have HB6 := Lib.hid (HB5.out.trans (hb56.mono HB5.out.size))
  have HR6 := Lib.hid (HR5.out.keep hb56)
  have e0 : w6.cell? ⟨w5.heap.size, 0, none⟩ = some (.bool m1) := by rw [← hw6]; simp
  have e1 : w6.cell? ⟨w5.heap.size, 1, none⟩ = some (.slice q1 ys.length k1) := by rw [← hw6]; simp
  generalize w5.heap.size = q at e0 e1 ⊢
  clear hw6 hb56 HR5 HB5
  go_upto_region 7 with (first
    | (go_at_call 8; refine (HW.out _).2.mono ?_; rintro e w7 ⟨m2, q2, k2, zs, rfl, hr7, hs7, hbx⟩; have HB7 := Lib.hid (HB6.out.trans (hbx.mono HB6.out.size)); have HR7 := Lib.hid hr7; have HS7 := Lib.hid hs7; have g0 := below_cell hbx e0; have g1 := below_cell hbx e1; have HR6' := Lib.hid (HR6.out.keep hbx); clear hbx hr7 hs7)
    | fail)
  clear e0 e1
  generalize hw8 : w7.alloc _ = w8
  have hb78 : Below w7.heap.size w7 w8 := by rw [← hw8]; exact (Below.refl _ _).alloc (Nat.le_refl _) _
  have HB8 := Lib.hid (HB7.out.trans (hb78.mono HB7.out.size))
  have HR8 := Lib.hid (HR7.out.keep hb78)
  have HR9 := Lib.hid (HR6'.out.keep hb78)
  have j0 := below_cell hb78 g0
  have j1 := below_cell hb78 g1
  have e0 : w8.cell? ⟨w7.heap.size, 0, none⟩ = some (.bool m2) := by rw [← hw8]; simp
  have e1 : w8.cell? ⟨w7.heap.size, 1, none⟩ = some (.slice q2 zs.length k2) := by rw [← hw8]; simp
  have hSm := same_any m1 m2 (.slice q1 ys.length k1) (.slice q2 zs.length k2) ys zs w8 HR9.out HR8.out
  rw [HS5.out.same (by decide) HS7.out] at hSm
  have HSm := Lib.hid hSm
  generalize w7.heap.size = r at e0 e1 ⊢
  clear hw8 hb78 g0 g1 hSm
  go_wp2_with (first
    | (go_at_call 9; refine HSm.out.mono ?_; rintro e w9 ⟨rfl, hbx⟩; have HB9 := Lib.hid (HB8.out.trans (hbx.mono HB8.out.size)); clear hbx)
    | fail)
  go_ret
  exact ⟨by first | rfl | simp, HB9.out⟩
/-- The law. -/
theorem law_wholes {hiT loT T : Nat → Nat} (hft : TBF hiT loT T) (h3 : hiT 348 = 9223372036854775808) (h4 : loT 348 = 0) (tv : TypeId) (yv : Value) (b : Nat) (hb : b < 18446744073709551616) (n1 : Bool) (u1 : Value) (xs : List Int) (w : World) (hr1 : Rd w u1 xs) (hf1 : Fit xs) (ht : PT w) (hp : P10R w) (hT : PFT hiT loT T tv yv w w.heap.size) :
    Calls Tryz.prog 3 #[.int .u64 (b : Int), .agg #[.bool n1, u1]] w fun e w' => e = .returned (.bool true) ∧ Below w.heap.size w w' := by
  obtain ⟨B0, X0, h⟩ := of_two hft h3 h4 tv yv n1 xs hf1
  exact law_wholes0 b hb n1 u1 xs B0 X0 w hr1 hf1 ht hp (fun W hx => h u1 W (hr1.keep hx) (hp.keep hx) ((hT.keep hx).up hx.size))
end
end Go.Proofs.YtbhommcpgejbfaaGreatDoor
