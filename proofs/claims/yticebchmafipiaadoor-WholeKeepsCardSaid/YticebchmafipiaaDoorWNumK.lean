/- Layer 2, the document's answer: screeref02.Of: the digits of a number in form. Layer 2, the document's answer: screeref02.To: the number of a row of decimal digits. Layer 2, the document's answer: Turn, Plus, Cmp, Fits. Layer 2, the document's answer: screeref02.Good. Layer 2: the helpers of the laws: form, fits, is. Layer 2: the helper 'is' of the laws. Layer 2, the document's answer: Plus. Layer 2: answers over a world that stays fixed; what a result that may be too great says. Layer 2: numbers of the reference in boxes: what a store into a box leaves, and ref.Of over a fixed world. Layer 2: more on numbers of the reference in boxes: sums, turned numbers, what 'is' answers. Layer 2: the reference's Int and Small: digits of an int, the int of digits. Layer 2: the reference's Small: the int of digits. -/
import Derived.Test.YticebchmafipiaaDoorWCmp
import Derived.Deep.RegionHeld3
import Derived.Test.YticebchmafipiaaDoorWGood
import Derived.Test.YticebchmafipiaaDoorDig
import Derived.Test.YticebchmafipiaaDoorWKnown
import Derived.Test.YticebchmafipiaaDoorWFit
import Derived.Test.YticebchmafipiaaDoorWNeg
import Derived.Test.YticebchmafipiaaDoorWAdd
import Derived.Test.YticebchmafipiaaDoorWDivLimb
import Derived.Test.YticebchmafipiaaDoorWDivBox
import Derived.Deep.CutBlock
namespace Go.Proofs.YticebchmafipiaaDoor
section
open Go.ChangeShapes Go.WideShapes Go.ChangeAt Go.RowKit
set_option linter.unusedVariables false
set_option linter.unusedSimpArgs false
theorem Sgn.rebase {b b' : Int} (hb : 0 < b) (hb' : 0 < b') {neg : Bool} {ws ds : List Int} {z : Int} (h : Sgn b neg ws z) (hc : Canon b' ds) (hv : val b' ds = val b ws) : Sgn b' neg ds z := by
  refine ⟨hc, fun e => ?_, by rw [hv]; exact h.eq⟩
  have h1 := h.canon.pos hb (h.sign e)
  rw [← hv] at h1
  cases ds with
  | nil => simp [val] at h1
  | cons d r => simp
/-- A number of the document's. -/
def NumPost (W : World) (z : Int) (e : Ending) (w' : World) : Prop :=
  ∃ neg u ds, e = .returned (.agg #[.bool neg, u]) ∧ Rb w' u ds ∧ Sgn 10 neg ds z ∧ Below W.heap.size W w'
structure OfIn (xs os : List Int) (m k : Nat) (l : Int) : Prop where
  len : os.length = 18 * m + k
  dig : Dig 10 os
  sum : val 10 os + 10 ^ (18 * m + k) * l = val B18 (xs.take (m + 1))
  lo : 0 ≤ l
  hi : l * 10 ^ k < B18
structure OfOut (xs os : List Int) (m : Nat) : Prop where
  len : os.length = 18 * m
  dig : Dig 10 os
  sum : val 10 os = val B18 (xs.take m)
theorem pow18 (m : Nat) : (10 : Int) ^ (18 * m) = B18 ^ m := by
  have e : B18 = 10 ^ 18 := by decide
  rw [e, ← Int.pow_mul]
theorem OfOut.enter {xs os : List Int} {m : Nat} (h : OfOut xs os m) (hx : Dig B18 xs) : OfIn xs os m 0 (xs.getD m 0) :=
  ⟨h.len, h.dig, by rw [Nat.add_zero, pow18, val_take', h.sum], (hx m).1, by simpa using (hx m).2⟩
theorem OfIn.lt {xs os : List Int} {m k : Nat} {l : Int} (h : OfIn xs os m k l) : l < 1000000000000000000 := by
  have h1 := h.hi
  have h2 := pow_pos' (by decide : (0 : Int) < 10) k
  have h3 : l * 1 ≤ l * 10 ^ k := Int.mul_le_mul_of_nonneg_left (by omega) h.lo
  rw [B18] at h1
  omega
theorem OfIn.step {xs os : List Int} {m k : Nat} {l : Int} (h : OfIn xs os m k l) : OfIn xs (os ++ [l % 10]) m (k + 1) (l / 10) := by
  have h0 := h.lo
  refine ⟨by rw [List.length_append, h.len]; simp; omega, h.dig.append (Dig.cons (by omega) (Dig.nil (by decide))), ?_, by omega, ?_⟩
  · rw [val_snoc, h.len, ← Nat.add_assoc, Int.pow_succ]
    have h1 := h.sum
    have h2 : l = l % 10 + 10 * (l / 10) := by omega
    have h3 : (10 : Int) ^ (18 * m + k) * l = 10 ^ (18 * m + k) * (l % 10 + 10 * (l / 10)) := by rw [← h2]
    grind
  · have h1 := h.hi
    have h2 := pow_pos' (by decide : (0 : Int) < 10) k
    rw [Int.pow_succ]
    have h3 : 10 * (l / 10) * 10 ^ k ≤ l * 10 ^ k := Int.mul_le_mul_of_nonneg_right (by omega) (by omega)
    have h4 : l / 10 * (10 ^ k * 10) = 10 * (l / 10) * 10 ^ k := by grind
    omega
theorem OfIn.leave {xs os : List Int} {m : Nat} {l : Int} (h : OfIn xs os m 18 l) : OfOut xs os (m + 1) := by
  have h1 := h.hi
  have h0 := h.lo
  have e : l = 0 := by
    have : (10 : Int) ^ 18 = 1000000000000000000 := by decide
    rw [this, B18] at h1
    omega
  subst e
  exact ⟨by rw [h.len]; omega, h.dig, by have := h.sum; simpa using this⟩
theorem OfOut.nil (xs : List Int) : OfOut xs [] 0 := ⟨rfl, Dig.nil (by decide), by simp [val]⟩
set_option maxRecDepth 100000 in
set_option maxHeartbeats 1000000 in
theorem of_any (n1 : Bool) (u1 : Value) (xs : List Int) (z1 : Int) (w : World) (hr1 : Rd w u1 xs) (hs1 : Sgn B18 n1 xs z1) (hl1 : xs.length ≤ 100) :
    Calls Tryd.prog 12 #[.agg #[.bool n1, u1]] w (NumPost w z1) := by
  obtain ⟨i0, hi, hz0, hz1, hz2⟩ := info_parts infoU8
  obtain ⟨p1, c1, rfl, _, _, hp1⟩ := rd_form hr1
  have HP1 := Lib.hid hp1
  have HS1 := Lib.hid hs1
  clear hr1 hs1 hp1
  go_enter Tryd.func12, Tryd.ntmps12
  go_wp2_with fail
  generalize hw2 : World.alloc (World.alloc w _) _ = w2
  have hbx : Bx2 w2 w.heap.size n1 (.slice p1 xs.length c1) := by
    rw [← hw2]
    refine ⟨alloc_cell (by simp) _, alloc_cell (by simp) _, ?_, ?_, ?_, ?_, by simp⟩ <;> simp
  have HB2 := Lib.hid (show Below w.heap.size w w2 by rw [← hw2]; exact ((Below.refl _ _).alloc (Nat.le_refl _) _).alloc (by simp) _)
  clear hw2
  have HX2 := Lib.hid hbx
  have hlt2 := hbx.lt
  clear hbx
  go_loopw [3, 4] (fun v s wr => ∃ (m : Nat) (os : List Int), s = .int .i64 m ∧ m ≤ xs.length ∧ OfOut xs os m ∧ OB wr w2.heap.size v os ∧ Below w2.heap.size w2 wr) (fun _ s _ => xs.length - (intOf s).toNat)
  case atStart => exact ⟨0, [], by go_num, by omega, OfOut.nil _, OW.nil _ _, Below.refl _ _⟩
  case round =>
    obtain ⟨m, os, rfl, hm, hS, hO, hB⟩ := hrel
    have HS := Lib.hid hS
    have HO := Lib.hid hO
    have HB := Lib.hid hB
    have hx := HX2.out.keep hB
    have q0 := hx.x0
    have q1 := hx.x1
    have HX := Lib.hid hx
    clear hS hO hB hx
    by_cases hlt : m < xs.length
    · obtain ⟨b1, o1, rfl, hxx⟩ := HP1.out (by omega)
      have hcx := below_cell HB.out (below_cell HB2.out (hxx m hlt))
      clear hxx
      have hltz : (m : Int) < (xs.length : Int) := by omega
      have HE := Lib.hid (HS.out.enter HS1.out.canon.1)
      generalize xs.getD m 0 = l0 at hcx HE
      go_wp2_with fail
      obtain ⟨wo, rfl⟩ : ∃ wo : World, wo = wr := ⟨_, rfl⟩
      go_loopw [3, 5, 6] (fun v lv s wr => ∃ (k : Nat) (l : Int) (os : List Int), s = .int .i64 k ∧ lv = .int .u64 l ∧ k ≤ 18 ∧ OfIn xs os m k l ∧ OB wr w2.heap.size v os ∧ Below w2.heap.size w2 wr) (fun _ _ s _ => 18 - (intOf s).toNat)
      case atStart => exact ⟨0, l0, os, by go_num, rfl, by omega, HE.out, HO.out, HB.out⟩
      case round =>
        obtain ⟨k, l, os2, rfl, rfl, hk, hS, hO, hB⟩ := hrel
        have HSI := Lib.hid hS
        have HOI := Lib.hid hO
        have HBI := Lib.hid hB
        have hlo := hS.lo
        have hhi := hS.lt
        have hol := hS.len
        clear hS hO hB
        by_cases hk18 : k < 18
        · have hkz : (k : Int) < 18 := by omega
          go_wp2_with (at_builtin; refine wpList_append_own _ rfl _ _ 26 rfl w2.heap.size 5 i0 (.int .u8 0) 1 1 Tryd.underlying26 hi hz0 hz1 hz2 rfl (by decide) _ _ _ rfl (World.ownsRow.alloc HOI.out _) ⟨wr.heap.size, 0, none⟩ 1 1 [.int .u8 (l % 10)] rfl rfl (one_newO _ _ _) (by simp [Value.oneCell']) (by unfold maxLen; omega) (by omega) (by have := HBI.out.size; simp; omega) ?_; intro v' w4 hown' hgrow _)
          have HOn := Lib.hid (OW.snoc hown')
          have HBn := Lib.hid (HOI.out.grown HBI.out hgrow (Nat.le_refl _))
          have HSn := Lib.hid HSI.out.step
          clear hown' hgrow
          go_wp2
          go_roundw
          case rel => exact ⟨k + 1, l / 10, os2 ++ [l % 10], by go_num, rfl, by omega, HSn.out, HOn.out, HBn.out⟩
          case measure => simp [intOf]; omega
        · obtain rfl : k = 18 := by omega
          have HL := Lib.hid HSI.out.leave
          clear hol
          go_wp2
          go_roundw
          case rel => exact ⟨m + 1, os2, by go_num, by omega, HL.out, HOI.out, HBI.out⟩
          case measure => simp [intOf]; omega
    · have hltz : ¬ (m : Int) < (xs.length : Int) := by omega
      obtain rfl : m = xs.length := by omega
      have hlen := HS.out.len
      have HV := Lib.hid (HS.out.sum.trans (val_full B18 (Nat.le_refl _)))
      have HMI := Lib.hid HO.out.mine
      have hrb := HO.out.rb (by omega)
      obtain ⟨p, cc, rfl, _, _, _⟩ := rb_form hrb
      have HRB := Lib.hid hrb
      have r0 := HX.out.r0
      have r1 := HX.out.r1
      have f0 := HX.out.f0
      have f1 := HX.out.f1
      have hlt := HX.out.lt
      have HCUT := Lib.hid (fun (wx : World) (hx : Below wr.heap.size wr wx) => cut_any p cc os wx (HRB.out.keep hx))
      rw [hlen] at HCUT
      clear hrb
      go_wp2_with fail
      go_region_held3 (fun w' => w'.cell? ⟨w.heap.size, 0, none⟩ = some (.bool n1))
        (first | assumption | exact cell_set2 (by omega) (by assumption) _ _ | go_keep)
        ((go_at_call 26; refine (HCUT.out _ (by first | exact Below.refl _ _ | exact (Below.refl _ _).drew)).mono ?_; rintro e w5 ⟨kk, hkk, rfl, rfl⟩; have HKK := Lib.hid hkk; clear hkk))
      go_wp2_with fail
      have zz := two_setW (x0 := .bool n1) (x1 := .slice p kk cc) r0 r1
      have hcut := HKK.out.canon (b := 10) (by decide) HS.out.dig
      refine bodyPost_ret (v := .agg #[.bool n1, .slice p kk cc]) (by simp [results, Tryd.results12, go_sem, zz.1, zz.2]) rfl ⟨n1, _, _, rfl, ((HMI.out.cut HKK.out.1).set2 hlt2 _ _).rb (by rw [hcut.2.2]; have := HKK.out.1; omega), HS1.out.rebase (by decide) (by decide) hcut.1 (by rw [hcut.2.1, HV.out]), ?_⟩
      exact ((((HB2.out.trans (HB.out.mono HB2.out.size)).setCell (by simp) _).setCell (by simp) _).drew)
end
section
open Go.ChangeShapes Go.WideShapes Go.ChangeAt Go.RowKit
set_option linter.unusedVariables false
set_option linter.unusedSimpArgs false
/-- A piece of a row of digits. -/
def part (ds : List Int) (a j : Nat) : Int := val 10 ((ds.drop a).take j)
theorem part_zero (ds : List Int) (a : Nat) : part ds a 0 = 0 := by simp [part, val]
theorem part_step (ds : List Int) (a j : Nat) : part ds a (j + 1) = 10 * part ds (a + 1) j + ds.getD a 0 := by
  unfold part
  by_cases h : a < ds.length
  · rw [List.drop_eq_getElem_cons h, List.take_succ_cons]
    simp [val, List.getD_eq_getElem?_getD, h]; omega
  · rw [List.drop_eq_nil_of_le (by omega), List.drop_eq_nil_of_le (by omega), getD_len (by omega)]
    simp [val]
theorem part_lt {ds : List Int} (h : Dig 10 ds) (a j : Nat) : 0 ≤ part ds a j ∧ part ds a j < 10 ^ j := by
  have hd : Dig 10 ((ds.drop a).take j) := Dig.take (fun i => by rw [getD_dropD]; exact h _) (by decide) j
  refine ⟨val_nonneg (by decide) hd, Int.lt_of_lt_of_le (val_lt (by decide) hd) (pow_mono' (by decide) ?_)⟩
  rw [List.length_take]; exact Nat.min_le_left _ _
theorem part_low {ds : List Int} (h : Dig 10 ds) (a j : Nat) (hj : j < 18) : part ds a j < 100000000000000000 := by
  have h1 := (part_lt h a j).2
  have h2 := pow_mono' (by decide : (1 : Int) ≤ 10) (show j ≤ 17 by omega)
  have h3 : (10 : Int) ^ 17 = 100000000000000000 := by decide
  omega
theorem part_full {ds : List Int} (h : Dig 10 ds) (a : Nat) : part ds a 18 < 1000000000000000000 := by
  have h1 := (part_lt h a 18).2
  have h3 : (10 : Int) ^ 18 = 1000000000000000000 := by decide
  omega
theorem part_rest (ds : List Int) (a : Nat) : val 10 (ds.drop a) = part ds a 18 + B18 * val 10 (ds.drop (a + 18)) := by
  unfold part
  have e := List.take_append_drop 18 (ds.drop a)
  have h := val_append 10 ((ds.drop a).take 18) ((ds.drop a).drop 18)
  rw [e, List.drop_drop] at h
  rw [h, List.length_take]
  by_cases hl : 18 ≤ (ds.drop a).length
  · rw [Nat.min_eq_left hl]; rfl
  · have : ds.drop (a + 18) = [] := List.drop_eq_nil_of_le (by rw [List.length_drop] at hl; omega)
    rw [this]; simp [val]
structure ToState (ds os : List Int) (m : Nat) : Prop where
  len : os.length = m
  dig : Dig B18 os
  sum : val B18 os + B18 ^ m * val 10 (ds.drop (18 * m)) = val 10 ds
  last : 0 < m → ds.length ≤ 18 * m → os.getD (m - 1) 0 ≠ 0
theorem ToState.nil (ds : List Int) : ToState ds [] 0 := ⟨rfl, Dig.nil (by decide), by simp [val], fun h => absurd h (by omega)⟩
theorem ToState.step {ds os : List Int} {m : Nat} (h : ToState ds os m) (hc : Canon 10 ds) (hlt : 18 * m < ds.length) : ToState ds (os ++ [part ds (18 * m) 18]) (m + 1) := by
  have hp := part_lt hc.1 (18 * m) 18
  have hpf := part_full hc.1 (18 * m)
  refine ⟨by simp [h.len], h.dig.append (Dig.cons ⟨hp.1, by rw [B18]; exact hpf⟩ (Dig.nil (by decide))), ?_, fun _ hle => ?_⟩
  · rw [val_snoc, h.len, Int.pow_succ, show 18 * (m + 1) = 18 * m + 18 by omega]
    have h1 := h.sum
    rw [part_rest ds (18 * m)] at h1
    grind
  · rw [show m + 1 - 1 = m by omega, List.getD_eq_getElem?_getD, List.getElem?_append_right (by rw [h.len]; exact Nat.le_refl _), h.len]
    simp only [Nat.sub_self, List.getElem?_cons_zero, Option.getD_some]
    have hr := part_rest ds (18 * m)
    have hn : ds.drop (18 * m + 18) = [] := List.drop_eq_nil_of_le (by omega)
    rw [hn] at hr
    simp [val] at hr
    have hcd : Canon 10 (ds.drop (18 * m)) := ⟨fun i => by rw [getD_dropD]; exact hc.1 _, fun hl => by
      rw [getD_dropD, List.length_drop]
      have := hc.2 (by omega)
      rw [show 18 * m + (ds.length - 18 * m - 1) = ds.length - 1 by omega]
      exact this⟩
    have := hcd.pos (by decide) (by rw [List.length_drop]; omega)
    omega
theorem ToState.finish {ds os : List Int} {m : Nat} (h : ToState ds os m) (hle : ds.length ≤ 18 * m) : Canon B18 os ∧ val B18 os = val 10 ds := by
  refine ⟨⟨h.dig, fun hl => ?_⟩, ?_⟩
  · rw [h.len] at hl ⊢
    exact h.last hl hle
  · have := h.sum
    rw [List.drop_eq_nil_of_le hle] at this
    simpa [val] using this
structure TB (w wr : World) (B S : Nat) (n1 : Bool) (u1 v : Value) : Prop where
  x0 : wr.cell? ⟨B, 0, none⟩ = some (.bool n1)
  x1 : wr.cell? ⟨B, 1, none⟩ = some u1
  r0 : wr.cell? ⟨B + 1, 0, none⟩ = some (.bool false)
  r1 : wr.cell? ⟨B + 1, 1, none⟩ = some (.slice none 0 0)
  f0 : wr.frozen? ⟨B + 1, 0, none⟩ = false
  f1 : wr.frozen? ⟨B + 1, 1, none⟩ = false
  c0 : wr.cell? ⟨B + 1 + 1, 0, none⟩ = some (.bool false)
  c1 : wr.cell? ⟨B + 1 + 1, 1, none⟩ = some v
  g0 : wr.frozen? ⟨B + 1 + 1, 0, none⟩ = false
  g1 : wr.frozen? ⟨B + 1 + 1, 1, none⟩ = false
  le : S ≤ wr.heap.size
  below : Below B w wr
theorem TB.keep {w wr w' : World} {B S : Nat} {n1 : Bool} {u1 v : Value} (h : TB w wr B S n1 u1 v) (hS : B + 1 + 1 < S) (hb : Below S wr w') : TB w w' B S n1 u1 v := by
  have c : ∀ b o, b < S → w'.cell? ⟨b, o, none⟩ = wr.cell? ⟨b, o, none⟩ := fun b o h => hb.cell (p := ⟨b, o, none⟩) h
  have f : ∀ b o, b < S → w'.frozen? ⟨b, o, none⟩ = wr.frozen? ⟨b, o, none⟩ := fun b o h => hb.frozen (p := ⟨b, o, none⟩) h
  exact ⟨(c _ _ (by omega)).trans h.x0, (c _ _ (by omega)).trans h.x1, (c _ _ (by omega)).trans h.r0, (c _ _ (by omega)).trans h.r1, (f _ _ (by omega)).trans h.f0, (f _ _ (by omega)).trans h.f1,
    (c _ _ (by omega)).trans h.c0, (c _ _ (by omega)).trans h.c1, (f _ _ (by omega)).trans h.g0, (f _ _ (by omega)).trans h.g1, Nat.le_trans h.le hb.size, h.below.trans (hb.mono (by omega))⟩
theorem TB.store {w wr : World} {B S : Nat} {n1 : Bool} {u1 v : Value} (h : TB w wr B S n1 u1 v) (v' : Value) : TB w (wr.setCell ⟨B + 1 + 1, 1, none⟩ v') B S n1 u1 v' := by
  have c : ∀ b o, b ≠ B + 1 + 1 → (wr.setCell ⟨B + 1 + 1, 1, none⟩ v').cell? ⟨b, o, none⟩ = wr.cell? ⟨b, o, none⟩ := fun b o e => World.cell?_of_block (a := ⟨b, o, none⟩) (Below.heap_setCell _ _ _ _ e)
  have f : ∀ b o, b ≠ B + 1 + 1 → (wr.setCell ⟨B + 1 + 1, 1, none⟩ v').frozen? ⟨b, o, none⟩ = wr.frozen? ⟨b, o, none⟩ := fun b o e => World.frozen?_of_block (a := ⟨b, o, none⟩) (Below.heap_setCell _ _ _ _ e)
  have n0 : (⟨B + 1 + 1, 1, none⟩ : Addr) ≠ ⟨B + 1 + 1, 0, none⟩ := by simp
  have e0 : (wr.setCell ⟨B + 1 + 1, 1, none⟩ v').cell? ⟨B + 1 + 1, 0, none⟩ = some (.bool false) := (World.cell?_setCell_other _ _ _ _ n0).trans h.c0
  have e1 : (wr.setCell ⟨B + 1 + 1, 1, none⟩ v').cell? ⟨B + 1 + 1, 1, none⟩ = some v' := World.cell?_setCell_same _ _ _ h.c1
  have g0 : (wr.setCell ⟨B + 1 + 1, 1, none⟩ v').frozen? ⟨B + 1 + 1, 0, none⟩ = false := by rw [World.frozen?_setCell]; exact h.g0
  have g1 : (wr.setCell ⟨B + 1 + 1, 1, none⟩ v').frozen? ⟨B + 1 + 1, 1, none⟩ = false := by rw [World.frozen?_setCell]; exact h.g1
  have le : S ≤ (wr.setCell ⟨B + 1 + 1, 1, none⟩ v').heap.size := by rw [World.size_setCell]; exact h.le
  have bl : Below B w (wr.setCell ⟨B + 1 + 1, 1, none⟩ v') := h.below.setCell (show B ≤ B + 1 + 1 by omega) _
  exact ⟨(c _ _ (by omega)).trans h.x0, (c _ _ (by omega)).trans h.x1, (c _ _ (by omega)).trans h.r0, (c _ _ (by omega)).trans h.r1, (f _ _ (by omega)).trans h.f0, (f _ _ (by omega)).trans h.f1, e0, e1, g0, g1, le, bl⟩
theorem OW.setBox {k : IntKind} {T : TypeId} {w : World} {ws : List Int} {S B : Nat} {v : Value} (h : OW k T w S v ws) (hB : B < S) {i : Nat} (x : Value) : OW k T (w.setCell ⟨B, i, none⟩ x) S v ws := by
  obtain ⟨h1, h2⟩ := h
  refine ⟨h1, ?_⟩
  rcases h2 with h2 | ⟨g, cap, cur, hv, hg, hh, r⟩
  · exact .inl h2
  · exact .inr ⟨g, cap, cur, hv, hg, (Below.heap_setCell _ _ _ _ (by simp; omega)).trans hh, r⟩
set_option maxRecDepth 100000 in
set_option maxHeartbeats 1000000 in
theorem to_any (n1 : Bool) (u1 : Value) (ds : List Int) (z1 : Int) (w : World) (hr1 : Rb w u1 ds) (hs1 : Sgn 10 n1 ds z1) (hl1 : ds.length ≤ 100000) :
    Calls Tryd.prog 31 #[.agg #[.bool n1, u1]] w (BigPost w w.heap.size z1) := by
  obtain ⟨i0, hi, hz0, hz1, hz2⟩ := info_parts infoU64
  obtain ⟨p1, c1, rfl, _, _, hp1⟩ := rb_form hr1
  have HP1 := Lib.hid hp1
  have HS1 := Lib.hid hs1
  clear hr1 hs1 hp1
  go_enter Tryd.func31, Tryd.ntmps31
  go_wp2_with fail
  generalize hw2 : World.alloc (World.alloc (World.alloc w _) _) _ = w2
  have hbx : TB w w2 w.heap.size w2.heap.size n1 (.slice p1 ds.length c1) (.slice none 0 0) := by
    rw [← hw2]
    refine ⟨alloc_cell (alloc_cell (by simp) _) _, alloc_cell (alloc_cell (by simp) _) _, alloc_cell (by simp) _, alloc_cell (by simp) _, alloc_frozen (by simp) (by simp) _, alloc_frozen (by simp) (by simp) _, third_cell _ _ _ _ _ 0, third_cell _ _ _ _ _ 1, third_fr _ _ _ _ _ 0, third_fr _ _ _ _ _ 1, Nat.le_refl _, (((Below.refl _ _).alloc (Nat.le_refl _) _).alloc (by simp) _).alloc (by simp; omega) _⟩
  have hsz : w.heap.size + 1 + 1 < w2.heap.size := by rw [← hw2]; simp
  clear hw2
  have HPT := Lib.hid (part_step ds)
  go_loopw [4] (fun s wr => ∃ (i m : Nat) (os : List Int) (v : Value), s = .int .i64 (i : Int) ∧ i ≤ 100050 ∧ Hid (i = 18 * m) ∧ ToState ds os m ∧ OW .u64 U64 wr w2.heap.size v os ∧ TB w wr w.heap.size w2.heap.size n1 (.slice p1 ds.length c1) v) (fun s _ => 100100 - (intOf s).toNat)
  case atStart => exact ⟨0, 0, [], _, by go_num, by omega, rfl, ToState.nil _, OW.nil _ _, hbx⟩
  case round =>
    obtain ⟨i, m, os, v, rfl, hm, HI, hS, hO, hT⟩ := hrel
    have HS := Lib.hid hS
    have HO := Lib.hid hO
    have HT := Lib.hid hT
    have hol := hS.len
    have q0 := hT.x0
    have q1 := hT.x1
    have q2 := hT.c0
    have q3 := hT.c1
    have q4 := hT.g0
    have q5 := hT.g1
    have hle := hT.le
    have HOL := Lib.hid hol
    have hm2 : m ≤ 5558 := by have := HI.out; omega
    clear hS hO hT hol
    by_cases hlt : i < ds.length
    · have hltz : (i : Int) < (ds.length : Int) := by omega
      obtain ⟨b1, o1, rfl, hxx⟩ := HP1.out (by omega)
      have HXX := Lib.hid hxx
      clear hxx
      go_wp2_with fail
      obtain ⟨wo, rfl⟩ : ∃ wo : World, wo = wr := ⟨_, rfl⟩
      go_loop [5, 6] (fun lv s => ∃ (a e : Nat) (l : Int), s = .int .i64 ((a : Int) - 1) ∧ lv = .int .u64 l ∧ Hid (a = i + e) ∧ i ≤ a ∧ a ≤ i + 18 ∧ 0 ≤ l ∧ l < 1000000000000000000 ∧ Hid (l = part ds a (18 - e))) (fun _ s => (intOf s + 1 - i).toNat)
      case atStart => exact ⟨i + 18, 18, 0, by go_num, rfl, rfl, by omega, by omega, by omega, by omega, (part_zero _ _).symm⟩
      case round =>
        obtain ⟨a, e, l, rfl, rfl, HA, ha1, ha2, hl0, hl1, HL⟩ := hrel
        by_cases he : i < a
        · obtain ⟨d, rfl⟩ : ∃ d, a = d + 1 := ⟨a - 1, by omega⟩
          have hk : ((d + 1 : Nat) : Int) - 1 = (d : Int) := by omega
          rw [hk]
          have hdi : (i : Int) ≤ (d : Int) := by omega
          have hj : 18 - (e - 1) = 18 - e + 1 := by have := HA.out; omega
          have hlow : l < 100000000000000000 := by
            rw [HL.out]
            exact part_low HS1.out.canon.1 _ _ (by have := HA.out; omega)
          have HST := Lib.hid (HPT.out d (18 - e))
          have HJ := Lib.hid hj
          have HD := Lib.hid (HS1.out.canon.1 d)
          clear hk hj
          by_cases hdl : d < ds.length
          · have hdlz : (d : Int) < (ds.length : Int) := by omega
            have hcx := below_cell HT.out.below (HXX.out d hdl)
            have hdg := HD.out
            generalize ds.getD d 0 = y at hcx hdg HST
            go_wp2_with fail
            go_round
            case rel => exact ⟨d, e - 1, l * 10 + y, rfl, rfl, (by have := HA.out; show d = i + (e - 1); omega), by omega, by omega, by omega, by omega, by
              show l * 10 + y = _
              rw [HJ.out, HST.out, HL.out]; omega⟩
            case measure => simp [intOf]; omega
          · have hdlz : ¬ (d : Int) < (ds.length : Int) := by omega
            have hy : ds.getD d 0 = 0 := getD_len (by omega)
            rw [hy] at HST
            clear hy
            go_wp2_with fail
            go_round
            case rel => exact ⟨d, e - 1, l * 10, rfl, rfl, (by have := HA.out; show d = i + (e - 1); omega), by omega, by omega, by omega, by omega, by
              show l * 10 = _
              rw [HJ.out, HST.out, HL.out]; omega⟩
            case measure => simp [intOf]; omega
        · obtain rfl : a = i := by omega
          have hlz : l = part ds (18 * m) 18 := by
            rw [HL.out, HI.out]; congr 1; have := HA.out; omega
          have HLZ := Lib.hid hlz
          clear hlz
          go_wp2_with (at_builtin; refine wpList_append_own _ rfl _ _ 22 rfl w2.heap.size 50 i0 (.int .u64 0) 1 8 Tryd.underlying22 hi hz0 hz1 hz2 rfl (by decide) _ _ _ rfl (World.ownsRow.alloc HO.out _) ⟨wo.heap.size, 0, none⟩ 1 1 [.int .u64 l] rfl rfl (one_newO _ _ _) (by simp [Value.oneCell']) (by have := HOL.out; unfold maxLen; omega) (by have := HOL.out; omega) (by simp; omega) ?_; intro v' w4 hown' hgrow _; have HOn := Lib.hid (OW.snoc hown'); have HTn := Lib.hid (HT.out.keep hsz (HO.out.stays hgrow hle)); have hrd := HOn.out.rd (show (os ++ [l]).length ≤ _ by rw [List.length_append, HOL.out, List.length_singleton]; omega); obtain ⟨pv, cv, rfl, _, _, _⟩ := rd_form hrd; have t0 := HTn.out.x0; have t1 := HTn.out.x1; have t2 := HTn.out.c0; have t3 := HTn.out.c1; have t4 := HTn.out.g0; have t5 := HTn.out.g1; clear hown' hgrow hrd q0 q1 q2 q3 q4 q5)
          have HST := Lib.hid (HS.out.step HS1.out.canon (by have := HI.out; omega))
          go_roundw
          case rel =>
            have e1 : (os ++ [l]).length = os.length + 1 := by simp
            have HO2 := HOn.out
            rw [e1] at HO2
            refine ⟨a + 18, m + 1, os ++ [l], _, by go_num, by omega, (by have := HI.out; show a + 18 = 18 * (m + 1); omega), ?_, HO2.setBox hsz _, HTn.out.store _⟩
            rw [HLZ.out]; exact HST.out
          case measure => simp [intOf]; omega
    · have hltz : ¬ (i : Int) < (ds.length : Int) := by omega
      have HF := Lib.hid (HS.out.finish (by have := HI.out; omega))
      have hrd := HO.out.rd (by have := HOL.out; omega)
      obtain ⟨pv, cv, rfl, _, _, _⟩ := rd_form hrd
      have HR := Lib.hid (HS1.out.rebase (b' := B18) (by decide) (by decide) HF.out.1 HF.out.2)
      have r0 := HT.out.r0
      have r1 := HT.out.r1
      have rf0 := HT.out.f0
      have rf1 := HT.out.f1
      clear hrd
      cases n1 with
      | false =>
        go_wp2_with fail
        have hr0 := (World.cell?_of_block (a := ⟨w.heap.size + 1, 0, none⟩) (Below.heap_setCell wr ⟨w.heap.size + 1 + 1, 0, none⟩ (.bool false) (w.heap.size + 1) (by simp))).trans r0
        have hr1 := (World.cell?_of_block (a := ⟨w.heap.size + 1, 1, none⟩) (Below.heap_setCell wr ⟨w.heap.size + 1 + 1, 0, none⟩ (.bool false) (w.heap.size + 1) (by simp))).trans r1
        have zz := two_setW (x0 := .bool false) (x1 := .slice pv os.length cv) hr0 hr1
        refine bodyPost_ret (v := .agg #[.bool false, .slice pv os.length cv]) (by simp [results, Tryd.results31, go_sem, zz.1, zz.2]) rfl ⟨false, _, os, rfl, (((HO.out.setBox hsz _).mine).set2 (by omega) _ _).low (by omega), HR.out, ?_⟩
        exact ((HT.out.below.setCell (by simp; omega) _).setCell (by simp) _).setCell (by simp) _
      | true =>
        have hpos := HS1.out.sign rfl
        have hposz : (0 : Int) < (ds.length : Int) := by omega
        go_wp2_with fail
        have hr0 := (World.cell?_of_block (a := ⟨w.heap.size + 1, 0, none⟩) (Below.heap_setCell wr ⟨w.heap.size + 1 + 1, 0, none⟩ (.bool true) (w.heap.size + 1) (by simp))).trans r0
        have hr1 := (World.cell?_of_block (a := ⟨w.heap.size + 1, 1, none⟩) (Below.heap_setCell wr ⟨w.heap.size + 1 + 1, 0, none⟩ (.bool true) (w.heap.size + 1) (by simp))).trans r1
        have zz := two_setW (x0 := .bool true) (x1 := .slice pv os.length cv) hr0 hr1
        refine bodyPost_ret (v := .agg #[.bool true, .slice pv os.length cv]) (by simp [results, Tryd.results31, go_sem, zz.1, zz.2]) rfl ⟨true, _, os, rfl, (((HO.out.setBox hsz _).mine).set2 (by omega) _ _).low (by omega), HR.out, ?_⟩
        exact ((HT.out.below.setCell (by simp; omega) _).setCell (by simp) _).setCell (by simp) _
end
section
open Go.ChangeShapes Go.WideShapes Go.ChangeAt Go.RowKit
set_option linter.unusedVariables false
set_option linter.unusedSimpArgs false
end
section
section
open Go.ChangeShapes Go.WideShapes Go.ChangeAt Go.RowKit
set_option linter.unusedVariables false
set_option linter.unusedSimpArgs false
set_option maxRecDepth 100000 in
set_option maxHeartbeats 1000000 in
theorem refgood_any (neg : Bool) (u : Value) (ws : List Int) (w : World) (hr : Rd w u ws) (hf : Fit ws) :
    Calls Tryd.prog 9 #[.agg #[.bool neg, u]] w (BoolPost w (goodB neg ws)) := by
  obtain ⟨p, c, rfl, hc, hm, hp⟩ := rd_form hr
  have HB := Lib.hid (show Below w.heap.size w (w.alloc (.cells #[.bool neg, .slice p ws.length c] 24)) from (Below.refl _ _).alloc (Nat.le_refl _) _)
  by_cases h0 : ws.length = 0
  · have e0 : ws = [] := List.length_eq_zero_iff.1 h0
    have HG := Lib.hid (show (!neg) = goodB neg ws by rw [e0]; rfl)
    clear e0
    rw [h0] at HB ⊢
    clear hp hc hm hr h0
    go_enter Tryd.func9, Tryd.ntmps9
    go_wp2
    go_ret
    exact BoolPost.mk HG.out HB.out
  · obtain ⟨b, off, rfl, hcell⟩ := hp (by omega)
    have hl0 : (ws.length : Int) ≠ 0 := by omega
    have hl1 : ((ws.length : Int) == 0) = false := by simpa using hl0
    have hl : 1 ≤ ws.length := by omega
    clear h0 hp hl0
    by_cases h30 : ws.length ≤ 30
    · have h30z : ¬ (30 : Int) < (ws.length : Int) := by omega
      have hcl := fun i hi => alloc_cell (hcell i hi) (.cells #[.bool neg, .slice (some ⟨b, off, none⟩) ws.length c] 24)
      have HC := Lib.hid hcl
      clear hcell hcl
      go_enter Tryd.func9, Tryd.ntmps9
      go_wp2
      go_loop [4] (fun i => ∃ k : Nat, i = .int .i64 k ∧ k ≤ ws.length ∧ ∀ j, j < k → ws.getD j 0 < 1000000000000000000) (fun i => ws.length - (intOf i).toNat)
      case atStart => exact ⟨0, by go_num, by omega, fun j hj => by omega⟩
      case round =>
        obtain ⟨k, rfl, hk, hall⟩ := hrel
        have HA := Lib.hid hall
        clear hall
        by_cases hlt : k < ws.length
        · have hcx := HC.out k hlt
          by_cases hbig : ws.getD k 0 < 1000000000000000000
          · have HL := Lib.hid hbig
            generalize ws.getD k 0 = x at hcx hbig
            go_wp2
            go_round
            case rel => exact ⟨k + 1, by go_num, by omega, fun j hj => by
              by_cases e : j = k
              · subst e; exact HL.out
              · exact HA.out j (by omega)⟩
            case measure => simp [intOf]; omega
          · have HG := Lib.hid (goodB_not (neg := neg) hlt hbig)
            generalize ws.getD k 0 = x at hcx hbig
            go_wp2
            go_ret
            exact BoolPost.mk HG.out.symm HB.out
        · have hlast := HC.out (ws.length - 1) (by omega)
          by_cases hz : ws.getD (ws.length - 1) 0 = 0
          · have HG := Lib.hid (goodB_last (neg := neg) (by omega) hz)
            rw [hz] at hlast
            clear hz
            go_wp2
            go_ret
            exact BoolPost.mk HG.out.symm HB.out
          · have HG := Lib.hid (goodB_yes (neg := neg) (by omega) h30 hz (fun i hi => HA.out i (by omega)))
            have hz2 : (ws.getD (ws.length - 1) 0 != 0) = true := by simpa using hz
            clear hz
            generalize ws.getD (ws.length - 1) 0 = q at hlast hz2
            go_wp2
            go_ret
            exact BoolPost.mk HG.out.symm HB.out
    · have HG := Lib.hid (goodB_long (neg := neg) (show 30 < ws.length by omega))
      go_enter Tryd.func9, Tryd.ntmps9
      go_wp2
      go_ret
      exact BoolPost.mk HG.out.symm HB.out
end
section
open Go.ChangeShapes Go.WideShapes Go.ChangeAt Go.RowKit
set_option linter.unusedVariables false
set_option linter.unusedSimpArgs false
end
section
open Go.ChangeShapes Go.WideShapes Go.ChangeAt Go.RowKit
set_option linter.unusedVariables false
set_option linter.unusedSimpArgs false
theorem big_len {n m : Bool} {vs ds : List Int} {z : Int} (h : Sgn B18 n vs z) (g : Sgn 10 m ds z) (hl : ds.length ≤ 100000) : vs.length ≤ 100000 := by
  have h1 : (z.natAbs : Int) < 10 ^ ds.length := (g.len (by decide) ds.length).1 (Nat.le_refl _)
  have h2 : ∀ n : Nat, (10 : Int) ^ n ≤ B18 ^ n := by
    intro n
    induction n with
    | zero => simp
    | succ n ih =>
      have h3 : (0 : Int) ≤ 10 ^ n := Int.pow_nonneg (by decide)
      rw [Int.pow_succ, Int.pow_succ]
      exact Int.mul_le_mul ih (by decide) (by decide) (Int.le_trans h3 ih)
  exact Nat.le_trans ((h.len (by decide) ds.length).2 (Int.lt_of_lt_of_le h1 (h2 _))) hl
set_option maxRecDepth 100000 in
set_option maxHeartbeats 1000000 in
theorem is_bad (ux : Value) (nn : Bool) (un : Value) (f : Int) (w : World) (hr : Rd w ux []) (hf : f ≠ 0) :
    Calls Tryd.prog 8 #[.agg #[.bool false, ux], .int .i64 f, .agg #[.bool nn, un], .int .i64 f] w (BoolPost w true) := by
  have HR := Lib.hid hr
  have hfz : (f == 0) = false := by simpa using hf
  clear hr
  go_enter Tryd.func8, Tryd.ntmps8
  go_wp2_with fail
  generalize hw1 : World.alloc (World.alloc w _) _ = w1
  have HB1 := Lib.hid (show Below w.heap.size w w1 by rw [← hw1]; exact ((Below.refl _ _).alloc (Nat.le_refl _) _).alloc (by simp) _)
  clear hw1
  refine (same_any false false ux (.slice none 0 0) [] [] w1 (HR.out.keep HB1.out) (.inl ⟨_, rfl, rfl⟩)).mono ?_
  rintro e w2 ⟨rfl, hb2⟩
  go_wp2_with fail
  go_ret
  exact ⟨rfl, HB1.out.trans (hb2.mono HB1.out.size)⟩
set_option maxRecDepth 100000 in
set_option maxHeartbeats 2000000 in
theorem is_good (nx : Bool) (ux : Value) (xs : List Int) (nn : Bool) (un : Value) (ds : List Int) (z : Int) (w : World) (hrx : Rd w ux xs) (hsx : Sgn B18 nx xs z) (hrn : Rb w un ds) (hsn : Sgn 10 nn ds z) (hl : ds.length ≤ 100000) :
    Calls Tryd.prog 8 #[.agg #[.bool nx, ux], .int .i64 0, .agg #[.bool nn, un], .int .i64 0] w (BoolPost w true) := by
  have HX := Lib.hid hrx
  have HN := Lib.hid hrn
  have HSX := Lib.hid hsx
  have HSN := Lib.hid hsn
  clear hrx hrn hsx hsn
  go_enter Tryd.func8, Tryd.ntmps8
  go_wp2_with fail
  generalize hw1 : World.alloc (World.alloc w _) _ = w1
  have HB1 := Lib.hid (show Below w.heap.size w w1 by rw [← hw1]; exact ((Below.refl _ _).alloc (Nat.le_refl _) _).alloc (by simp) _)
  have HK1 := Lib.hid (show Box2 w1 w.heap.size (.bool nx) ux by rw [← hw1]; exact (Box2.new _ _ _ _ rfl).alloc _)
  have HK2 := Lib.hid (show Box2 w1 (w.heap.size + 1) (.bool nn) un by rw [← hw1]; exact Box2.new _ _ _ _ (by simp))
  clear hw1
  have k0 := HK1.out.c0
  have k1 := HK1.out.c1
  have k2 := HK2.out.c0
  have k3 := HK2.out.c1
  have d0 : w1.drew.cell? ⟨w.heap.size, 0, none⟩ = some (.bool nx) := k0
  have d1 : w1.drew.cell? ⟨w.heap.size, 1, none⟩ = some ux := k1
  have d2 : w1.drew.cell? ⟨w.heap.size + 1, 0, none⟩ = some (.bool nn) := k2
  have d3 : w1.drew.cell? ⟨w.heap.size + 1, 1, none⟩ = some un := k3
  have HTO := Lib.hid (fun (wx : World) (hx : Below w.heap.size w wx) => to_any nn un ds z wx (HN.out.keep hx) HSN.out hl)
  go_region_held3 (fun w' => w'.cell? ⟨w.heap.size, 0, none⟩ = some (.bool nx) ∧ w'.cell? ⟨w.heap.size, 1, none⟩ = some ux ∧ w'.cell? ⟨w.heap.size + 1, 0, none⟩ = some (.bool nn) ∧ w'.cell? ⟨w.heap.size + 1, 1, none⟩ = some un)
    ((repeat' apply And.intro) <;> (first | with_reducible assumption | (with_reducible exact cell_set2 (by omega) (by assumption) _ _) | (with_reducible exact cell_set4 (by omega) (by omega) (by assumption) _ _ _ _)))
    (first
     | (go_at_call 31; refine (HTO.out _ (by first | exact HB1.out | exact HB1.out.drew)).mono ?_; rintro e wa ⟨na, ua, vs, rfl, hMa, hSa, hba⟩; have hqa : Below w1.heap.size w1 wa := ⟨hba.os, hba.tape, hba.output, hba.size, hba.block⟩; have HBa := Lib.hid (HB1.out.trans (hqa.mono HB1.out.size)); have HRa := Lib.hid (hMa.rd (by have := big_len hSa HSN.out hl; omega)); have HSa := Lib.hid hSa; have a0 := below_cell hqa k0; have a1 := below_cell hqa k1; have a2 := below_cell hqa k2; have a3 := below_cell hqa k3; clear hMa hSa hba hqa)
     | (go_at_call 22; refine (same_any nx na ux ua xs vs _ (HX.out.keep HBa.out) HRa.out).mono ?_; rintro e wb ⟨rfl, hbb⟩; rw [HSX.out.same (by decide) HSa.out]; have HBb := Lib.hid (HBa.out.trans (hbb.mono HBa.out.size)); have b0 := below_cell hbb a0; have b1 := below_cell hbb a1; have b2 := below_cell hbb a2; have b3 := below_cell hbb a3; clear hbb))
  go_goals
  go_wp2_with fail
  go_ret
  exact ⟨rfl, HBb.out⟩
end
end
section
open Go.ChangeShapes Go.WideShapes Go.ChangeAt Go.RowKit
set_option linter.unusedVariables false
set_option linter.unusedSimpArgs false
theorem Mine.form {k : IntKind} {T : TypeId} {w : World} {B : Nat} {u : Value} {ws : List Int} (h : Mine k T w B u ws) : ∃ p c, u = .slice p ws.length c := by
  rcases h with ⟨rfl, rfl⟩ | ⟨g, c, cur, h0, _⟩
  · exact ⟨_, _, rfl⟩
  · exact ⟨_, _, h0⟩
/-- A sign and the digits of a sum or a difference. -/
theorem Sgn.made {b : Int} (hb : 0 < b) {n : Bool} {os : List Int} {a z : Int} (hc : Canon b os) (hv : val b os = a) (hp : n = true → 0 < a) (hz : sg n a = z) : Sgn b n os z := by
  refine ⟨hc, fun e => ?_, by rw [hv, hz]⟩
  have h1 := hp e
  cases os with
  | nil => simp [val] at hv; omega
  | cons d r => simp
theorem Sgn.pos {b : Int} (hb : 0 < b) {n : Bool} {ws : List Int} {z : Int} (h : Sgn b n ws z) (e : n = true) : 0 < val b ws := h.canon.pos hb (h.sign e)
theorem len_le10 {xs ys : List Int} (hx : Canon 10 xs) (hy : Canon 10 ys) (h : val 10 xs ≤ val 10 ys) : xs.length ≤ ys.length := by
  apply Classical.byContradiction
  intro hc
  have := len_lt (b := 10) (by decide) hy hx (by omega)
  omega
end
section
section
open Go.ChangeShapes Go.WideShapes Go.ChangeAt Go.RowKit
set_option linter.unusedVariables false
set_option linter.unusedSimpArgs false
/-- What a result that may be too great says: the number, or that there is none. -/
def ResCase (z : Int) (neg : Bool) (ws : List Int) (er : Int) : Prop := (Small z ∧ er = 0 ∧ Sgn B18 neg ws z) ∨ (¬ Small z ∧ er = 7 ∧ neg = false ∧ ws = [])
/-- A call's answer, over a world that stays fixed. -/
def At (W : World) (v : Value) (e : Ending) (w' : World) : Prop := e = .returned v ∧ Below W.heap.size W w'
theorem drew_cellA {W : World} {a : Addr} {v : Value} (h : W.cell? a = some v) : W.drew.cell? a = some v := h
theorem ResCase.uniq {z : Int} {n1 n2 : Bool} {xs ys : List Int} {e1 e2 : Int} (h : ResCase z n1 xs e1) (g : ResCase z n2 ys e2) : n1 = n2 ∧ xs = ys ∧ e1 = e2 := by
  rcases h with ⟨a, rfl, c⟩ | ⟨a, rfl, rfl, rfl⟩ <;> rcases g with ⟨a', rfl, c'⟩ | ⟨a', rfl, rfl, rfl⟩
  · exact ⟨(c.uniq (by decide) c').1, (c.uniq (by decide) c').2, rfl⟩
  · exact absurd a a'
  · exact absurd a' a
  · exact ⟨rfl, rfl, rfl⟩
theorem ResCase.len17 {z : Int} {neg : Bool} {ws : List Int} {er : Int} (h : ResCase z neg ws er) : ws.length ≤ 17592186043904 := by
  rcases h with ⟨h1, _, h3⟩ | ⟨_, _, _, rfl⟩
  · have := h3.small.2 h1; omega
  · simp
theorem ResCase.sgn {z : Int} {neg : Bool} {ws : List Int} {er : Int} (h : ResCase z neg ws er) : Sgn B18 neg ws (sg neg (val B18 ws)) ∧ ws.length ≤ 30 := by
  rcases h with ⟨h1, _, h3⟩ | ⟨_, _, rfl, rfl⟩
  · exact ⟨by have := h3.eq; rwa [this] at h3, h3.small.2 h1⟩
  · exact ⟨Sgn.zero (by decide), by simp⟩
theorem ResCase.er {z : Int} {neg : Bool} {ws : List Int} {er : Int} (h : ResCase z neg ws er) : er = 0 ∨ er = 7 := by
  rcases h with ⟨_, h, _⟩ | ⟨_, h, _⟩
  · exact .inl h
  · exact .inr h
theorem ResCase.ok {z : Int} {neg : Bool} {ws : List Int} (h : ResCase z neg ws 0) : Sgn B18 neg ws z := by
  rcases h with ⟨_, _, h⟩ | ⟨_, h, _⟩
  · exact h
  · cases h
theorem ResCase.er0 {z : Int} {neg : Bool} {ws : List Int} {er : Int} (h : ResCase z neg ws er) (hs : Small z) : er = 0 := by
  rcases h with ⟨_, h, _⟩ | ⟨h, _⟩
  · exact h
  · exact absurd hs h
theorem ResCase.er7 {z : Int} {neg : Bool} {ws : List Int} {er : Int} (h : ResCase z neg ws er) (hs : ¬ Small z) : er = 7 := by
  rcases h with ⟨h, _⟩ | ⟨_, h, _⟩
  · exact absurd h hs
  · exact h
theorem back_same {z2 : Int} {n n1 : Bool} {ws xs : List Int} {er : Int} (h : ResCase (sg n1 (val B18 xs) + z2 - z2) n ws er) (s : Sgn B18 n1 xs (sg n1 (val B18 xs))) (hl : xs.length ≤ 30) : n1 = n ∧ xs = ws ∧ 0 = er := by
  rw [Int.add_sub_cancel] at h
  exact ResCase.uniq (.inl ⟨s.small.1 hl, rfl, s⟩) h
theorem same_self (n : Bool) (u1 u2 : Value) (ws : List Int) (w : World) (h1 : Rd w u1 ws) (h2 : Rd w u2 ws) :
    Calls Tryd.prog 22 #[.agg #[.bool n, u1], .agg #[.bool n, u2]] w (BoolPost w true) := by
  have h := same_any n n u1 u2 ws ws w h1 h2
  rwa [show sameB n ws n ws = true by simp [sameB]] at h
theorem same_yes (n1 n2 : Bool) (u1 u2 : Value) (xs ys : List Int) (z : Int) (w : World) (h1 : Rd w u1 xs) (h2 : Rd w u2 ys) (s1 : Sgn B18 n1 xs z) (s2 : Sgn B18 n2 ys z) :
    Calls Tryd.prog 22 #[.agg #[.bool n1, u1], .agg #[.bool n2, u2]] w (BoolPost w true) := by
  have h := same_any n1 n2 u1 u2 xs ys w h1 h2
  rwa [s1.same (by decide) s2] at h
theorem refgood_at {W wx : World} {n1 : Bool} {u1 : Value} {xs : List Int} {b : Bool} (hr : Rd W u1 xs) (hf : Fit xs) (hg : goodB n1 xs = b) (hx : Below W.heap.size W wx) :
    Calls Tryd.prog 9 #[.agg #[.bool n1, u1]] wx (At W (.bool b)) := by
  refine (refgood_any n1 u1 xs wx (hr.keep hx) hf).mono ?_
  rintro e w' ⟨rfl, hb⟩
  rw [hg]
  exact ⟨rfl, hx.trans (hb.mono hx.size)⟩
theorem good_at {W wx : World} {n1 : Bool} {u1 : Value} {xs : List Int} {b : Bool} (hr : Rd W u1 xs) (hf : Fit xs) (hg : goodB n1 xs = b) (hx : Below W.heap.size W wx) :
    Calls Tryd.prog 25 #[.agg #[.bool n1, u1]] wx (At W (.bool b)) := by
  refine (good_any n1 u1 xs wx (hr.keep hx) hf).mono ?_
  rintro e w' ⟨rfl, hb⟩
  rw [hg]
  exact ⟨rfl, hx.trans (hb.mono hx.size)⟩
end
section
section
open Go.ChangeShapes Go.WideShapes Go.ChangeAt Go.RowKit
set_option linter.unusedVariables false
set_option linter.unusedSimpArgs false
/-- A box holds a bool and a slice, a row of bytes holds bytes: a store into the box leaves the row. -/
theorem Rb.set2 {w : World} {B : Nat} {a : Bool} {p : Option Addr} {n c : Nat} {v : Value} {ws : List Int} (h : Rb w v ws) (hb : Box2 w B (.bool a) (.slice p n c)) (x y : Value) : Rb ((w.setCell ⟨B, 0, none⟩ x).setCell ⟨B, 1, none⟩ y) v ws := by
  rcases h with h | ⟨b, off, cc, rfl, h1, h2, h3⟩
  · exact .inl h
  · refine .inr ⟨b, off, cc, rfl, h1, h2, fun i hi => ?_⟩
    have h4 := h3 i hi
    have e0 : (⟨B, 0, none⟩ : Addr) ≠ ⟨b, off + i, none⟩ := fun e => by rw [← e, hb.c0] at h4; simp at h4
    have e1 : (⟨B, 1, none⟩ : Addr) ≠ ⟨b, off + i, none⟩ := fun e => by rw [← e, hb.c1] at h4; simp at h4
    exact (World.cell?_setCell_other _ _ _ _ e1).trans ((World.cell?_setCell_other _ _ _ _ e0).trans h4)
def NumAt (W wx : World) (z : Int) (e : Ending) (w' : World) : Prop :=
  ∃ m p c ds, e = .returned (.agg #[.bool m, .slice p ds.length c]) ∧ Rb w' (.slice p ds.length c) ds ∧ Sgn 10 m ds z ∧ Below W.heap.size W w' ∧ Below wx.heap.size wx w'
theorem of_at {W : World} {n1 : Bool} {u1 : Value} {xs : List Int} {z : Int} (hr : Rd W u1 xs) (hs : Sgn B18 n1 xs z) (hl : xs.length ≤ 100) (wx : World) (hx : Below W.heap.size W wx) :
    Calls Tryd.prog 12 #[.agg #[.bool n1, u1]] wx (NumAt W wx z) := by
  refine (of_any n1 u1 xs z wx (hr.keep hx) hs hl).mono ?_
  rintro e w' ⟨m, u, ds, rfl, hb, hS, hB⟩
  obtain ⟨p, c, rfl, _, _, _⟩ := rb_form hb
  exact ⟨m, p, c, ds, rfl, hb, hS, hx.trans (hB.mono hx.size), hB⟩
/-- Two numbers in boxes of their own. -/
structure NN (W wx : World) (b1 b2 : Nat) (m1 : Bool) (p1 : Option Addr) (c1 : Nat) (d1 : List Int) (m2 : Bool) (p2 : Option Addr) (c2 : Nat) (d2 : List Int) (z1 z2 : Int) : Prop where
  below : Below W.heap.size W wx
  x1 : Box2 wx b1 (.bool m1) (.slice p1 d1.length c1)
  x2 : Box2 wx b2 (.bool m2) (.slice p2 d2.length c2)
  r1 : Rb wx (.slice p1 d1.length c1) d1
  r2 : Rb wx (.slice p2 d2.length c2) d2
  s1 : Sgn 10 m1 d1 z1
  s2 : Sgn 10 m2 d2 z2
  l1 : W.heap.size ≤ b1
  l2 : W.heap.size ≤ b2
  ne : b1 ≠ b2
end
section
open Go.ChangeShapes Go.WideShapes Go.ChangeAt Go.RowKit
set_option linter.unusedVariables false
set_option linter.unusedSimpArgs false
theorem Rb.alloc {w : World} {v : Value} {ws : List Int} (h : Rb w v ws) (o : Obj) : Rb (w.alloc o) v ws := h.keep ((Below.refl _ _).alloc (Nat.le_refl _) o)
theorem Rb.drew {w : World} {v : Value} {ws : List Int} (h : Rb w v ws) : Rb w.drew v ws := h
theorem Rb.put2 {w : World} {B : Nat} {v : Value} {ws : List Int} (hb : Box2 w B (.bool false) (.slice none 0 0)) (x y : Value) (h : Rb w v ws) : Rb ((w.setCell ⟨B, 0, none⟩ x).setCell ⟨B, 1, none⟩ y) v ws := h.set2 hb x y
theorem Small.len {m : Bool} {ds : List Int} {z : Int} (h : Small z) (s : Sgn 10 m ds z) : ds.length ≤ 540 := s.fits.2 h
theorem sum_len {m : Bool} {ds : List Int} {z1 z2 : Int} (h1 : Small z1) (h2 : Small z2) (s : Sgn 10 m ds (z1 + z2)) : ds.length ≤ 541 := by
  rw [s.len (by decide), Int.pow_succ]
  have a := h1.lt
  have b := h2.lt
  generalize (10 : Int) ^ 540 = P at a b
  omega
theorem sgn_small {n : Bool} {xs : List Int} (h : Sgn B18 n xs (sg n (val B18 xs))) (hl : xs.length ≤ 30) : Small (sg n (val B18 xs)) := h.small.1 hl
/-- What 'fits' answers. -/
def fitN (ds : List Int) : Int := if (ds.length : Int) ≤ 540 then 0 else 7
theorem is_at {W wx : World} {nx : Bool} {ux : Value} {xs : List Int} {er : Int} {nn : Bool} {un : Value} {ds : List Int} {z : Int} (hrx : Rd W ux xs) (hc : ResCase z nx xs er) (hrn : Rb W un ds) (hsn : Sgn 10 nn ds z) (hl : ds.length ≤ 100000) (hx : Below W.heap.size W wx) :
    Calls Tryd.prog 8 #[.agg #[.bool nx, ux], .int .i64 er, .agg #[.bool nn, un], .int .i64 (fitN ds)] wx (At W (.bool true)) := by
  rcases hc with ⟨h1, rfl, h3⟩ | ⟨h1, rfl, rfl, rfl⟩
  · have hf : fitN ds = 0 := by unfold fitN; rw [if_pos (by have := hsn.fits.2 h1; omega)]
    rw [hf]
    refine (is_good nx ux xs nn un ds z wx (hrx.keep hx) h3 (hrn.keep hx) hsn hl).mono ?_
    rintro e w' ⟨rfl, hb⟩
    exact ⟨rfl, hx.trans (hb.mono hx.size)⟩
  · have hf : fitN ds = 7 := by unfold fitN; rw [if_neg (by intro h; exact h1 (hsn.fits.1 (by omega)))]
    rw [hf]
    refine (is_bad ux nn un 7 wx (hrx.keep hx) (by decide)).mono ?_
    rintro e w' ⟨rfl, hb⟩
    exact ⟨rfl, hx.trans (hb.mono hx.size)⟩
/-- A big number of one's own, over a world that stays fixed. -/
def BigAt (W wx : World) (z : Int) (e : Ending) (w' : World) : Prop :=
  ∃ n p c ws, e = .returned (.agg #[.bool n, .slice p (List.length ws) c]) ∧ Rd w' (.slice p ws.length c) ws ∧ Sgn B18 n ws z ∧ Below W.heap.size W w' ∧ Below wx.heap.size wx w'
theorem neg_at {W wx : World} {n1 : Bool} {u1 : Value} {xs : List Int} {z1 : Int} (hr1 : Rd W u1 xs) (hs1 : Sgn B18 n1 xs z1) (hl1 : xs.length ≤ 30) (hx : Below W.heap.size W wx) :
    Calls Tryd.prog 18 #[.agg #[.bool n1, u1]] wx (BigAt W wx (-z1)) := by
  refine (neg_good n1 u1 xs z1 wx (hr1.keep hx) hs1 hl1).mono ?_
  rintro e w' ⟨n, u, ws, rfl, hM, hS, hB⟩
  obtain ⟨p, c, rfl⟩ := MU.form hM
  have hlen : ws.length ≤ 30 := hS.small.2 (hs1.small.1 hl1).neg
  exact ⟨n, p, c, ws, rfl, hM.rd (by omega), hS, hx.trans (hB.mono hx.size), hB⟩
theorem to_at {W wx : World} {n1 : Bool} {u1 : Value} {ds : List Int} {z1 : Int} (hr1 : Rb wx u1 ds) (hs1 : Sgn 10 n1 ds z1) (hl1 : ds.length ≤ 540) (hx : Below W.heap.size W wx) :
    Calls Tryd.prog 31 #[.agg #[.bool n1, u1]] wx (BigAt W wx z1) := by
  refine (to_any n1 u1 ds z1 wx hr1 hs1 (by omega)).mono ?_
  rintro e w' ⟨n, u, ws, rfl, hM, hS, hB⟩
  obtain ⟨p, c, rfl⟩ := MU.form hM
  have hlen : ws.length ≤ 30 := hS.small.2 (hs1.fits.1 hl1)
  exact ⟨n, p, c, ws, rfl, hM.rd (by omega), hS, hx.trans (hB.mono hx.size), hB⟩
theorem same_at {W wx : World} {n1 n2 : Bool} {u1 u2 : Value} {xs ys : List Int} {z : Int} (h1 : Rd wx u1 xs) (h2 : Rd wx u2 ys) (s1 : Sgn B18 n1 xs z) (s2 : Sgn B18 n2 ys z) (hx : Below W.heap.size W wx) :
    Calls Tryd.prog 22 #[.agg #[.bool n1, u1], .agg #[.bool n2, u2]] wx (At W (.bool true)) := by
  refine (same_any n1 n2 u1 u2 xs ys wx h1 h2).mono ?_
  rintro e w' ⟨rfl, hb⟩
  rw [s1.same (by decide) s2]
  exact ⟨rfl, hx.trans (hb.mono hx.size)⟩
end
end
end
section
section
open Go.ChangeShapes Go.WideShapes Go.ChangeAt Go.RowKit
set_option linter.unusedVariables false
set_option linter.unusedSimpArgs false
/-- An int's range. -/
structure I64 (z : Int) : Prop where
  lo : -9223372036854775808 ≤ z
  hi : z ≤ 9223372036854775807
theorem I64.small {n : Int} (h : I64 n) : Small n := by
  refine ⟨?_⟩
  have h1 := pow_mono' (b := 10) (by decide) (show 19 ≤ 540 by decide)
  rw [show (10 : Int) ^ 19 = 10000000000000000000 by decide] at h1
  have := h.lo; have := h.hi
  generalize (10 : Int) ^ 540 = P at h1 ⊢
  omega
structure IntState (a : Int) (ds : List Int) (u : Int) : Prop where
  dig : Dig 10 ds
  sum : val 10 ds + 10 ^ ds.length * u = a
  lo : 0 ≤ u
  last : u = 0 → 0 < ds.length → ds.getD (ds.length - 1) 0 ≠ 0
theorem IntState.start {a : Int} (h : 0 ≤ a) : IntState a [] a := ⟨Dig.nil (by decide), by simp [val], h, fun _ h => by simp at h⟩
theorem IntState.len {a u : Int} {ds : List Int} (h : IntState a ds u) (hu : 0 < u) (ha : a ≤ 18446744073709551615) : ds.length < 20 := by
  apply Classical.byContradiction
  intro hc
  have h1 := pow_mono' (b := 10) (by decide) (show 20 ≤ ds.length by omega)
  have h2 := val_nonneg (b := 10) (by decide) h.dig
  have h3 : (10 : Int) ^ ds.length * 1 ≤ 10 ^ ds.length * u := Int.mul_le_mul_of_nonneg_left (by omega) (Int.le_of_lt (pow_pos' (by decide) _))
  have h4 := h.sum
  rw [show (10 : Int) ^ 20 = 100000000000000000000 by decide] at h1
  omega
theorem getD_snoc_last (ds : List Int) (x : Int) : (ds ++ [x]).getD ((ds ++ [x]).length - 1) 0 = x := by
  simp [List.getD_eq_getElem?_getD]
theorem IntState.step {a u : Int} {ds : List Int} (h : IntState a ds u) (hu : 0 < u) : IntState a (ds ++ [u % 10]) (u / 10) := by
  refine ⟨h.dig.append (Dig.cons ⟨by omega, by omega⟩ (Dig.nil (by decide))), ?_, by omega, fun h0 _ => ?_⟩
  · rw [val_snoc, List.length_append, List.length_singleton, Int.pow_succ, ← h.sum]
    have e : (10 : Int) ^ ds.length * 10 * (u / 10) = 10 ^ ds.length * (10 * (u / 10)) := by rw [Int.mul_assoc]
    have e2 : (10 : Int) ^ ds.length * (u % 10) + 10 ^ ds.length * (10 * (u / 10)) = 10 ^ ds.length * u := by
      rw [← Int.mul_add]; congr 1; omega
    omega
  · rw [getD_snoc_last]; omega
theorem IntState.done {n a : Int} {ds : List Int} (h : IntState a ds 0) (ha : a = (n.natAbs : Int)) : Sgn 10 (decide (n < 0)) ds n := by
  have hs := h.sum
  rw [Int.mul_zero, Int.add_zero] at hs
  refine ⟨⟨h.dig, h.last rfl⟩, fun hn => ?_, ?_⟩
  · apply Classical.byContradiction
    intro hc
    obtain rfl := List.length_eq_zero_iff.1 (show ds.length = 0 by omega)
    simp [val] at hs
    simp at hn
    omega
  · unfold sg
    split <;> rename_i hh <;> simp at hh <;> omega
end
section
open Go.ChangeShapes Go.WideShapes Go.ChangeAt Go.RowKit
set_option linter.unusedVariables false
set_option linter.unusedSimpArgs false
def SmallPost (W : World) (z : Int) (e : Ending) (w' : World) : Prop :=
  ∃ m ok, e = .returned (.tuple #[.int .i64 m, .bool ok]) ∧ ((I64 z ∧ m = z ∧ ok = true) ∨ (¬ I64 z ∧ ok = false)) ∧ Below W.heap.size W w'
theorem SmallPost.yes {W w' : World} {z m : Int} (h : I64 z) (e : m = z) (hb : Below W.heap.size W w') : SmallPost W z (.returned (.tuple #[.int .i64 m, .bool true])) w' := ⟨m, true, rfl, .inl ⟨h, e, rfl⟩, hb⟩
theorem SmallPost.no {W w' : World} {z m : Int} (h : ¬ I64 z) (hb : Below W.heap.size W w') : SmallPost W z (.returned (.tuple #[.int .i64 m, .bool false])) w' := ⟨m, false, rfl, .inr ⟨h, rfl⟩, hb⟩
theorem drop_lt {ds : List Int} (hd : Dig 10 ds) (hl : ds.length ≤ 19) {j : Nat} (hj : j < ds.length) : 0 ≤ val 10 (ds.drop (j + 1)) ∧ val 10 (ds.drop (j + 1)) < 1000000000000000000 := by
  have hdd : Dig 10 (ds.drop (j + 1)) := fun i => by rw [getD_dropD]; exact hd _
  have h1 := val_lt (b := 10) (by decide) hdd
  have h2 := pow_mono' (b := 10) (by decide) (show (ds.drop (j + 1)).length ≤ 18 by rw [List.length_drop]; omega)
  rw [show (10 : Int) ^ 18 = 1000000000000000000 by decide] at h2
  exact ⟨val_nonneg (by decide) hdd, by omega⟩
theorem val_19 {ds : List Int} (hd : Dig 10 ds) (hl : ds.length ≤ 19) : 0 ≤ val 10 ds ∧ val 10 ds < 10000000000000000000 := by
  have h1 := val_lt (b := 10) (by decide) hd
  have h2 := pow_mono' (b := 10) (by decide) hl
  rw [show (10 : Int) ^ 19 = 10000000000000000000 by decide] at h2
  exact ⟨val_nonneg (by decide) hd, by omega⟩
end
end
end Go.Proofs.YticebchmafipiaaDoor
