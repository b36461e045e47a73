/- Layer 2, the document's answer: screeref02.Of: the digits of a number in form. -/
import Derived.Test.YthcijdlkaoppnaaGreatDoorPWCmp
import Derived.Deep.RegionHeld3
namespace Go.Proofs.YthcijdlkaoppnaaGreatDoor
open Go.ChangeShapes Go.WideShapes Go.ChangeAt Go.RowKit
set_option linter.unusedVariables false
set_option linter.unusedSimpArgs false
theorem Sgn.rebase {b b' : Int} (hb : 0 < b) (hb' : 0 < b') {neg : Bool} {ws ds : List Int} {z : Int} (h : Sgn b neg ws z) (hc : Canon b' ds) (hv : val b' ds = val b ws) : Sgn b' neg ds z := by
  refine ⟨hc, fun e => ?_, by rw [hv]; exact h.eq⟩
  have h1 := h.canon.pos hb (h.sign e)
  rw [← hv] at h1
  cases ds with
  | nil => simp [val] at h1
  | cons d r => simp
/-- A number of the document's. -/
def NumPost (W : World) (z : Int) (e : Ending) (w' : World) : Prop :=
  ∃ neg u ds, e = .returned (.agg #[.bool neg, u]) ∧ Rb w' u ds ∧ Sgn 10 neg ds z ∧ Below W.heap.size W w'
structure OfIn (xs os : List Int) (m k : Nat) (l : Int) : Prop where
  len : os.length = 18 * m + k
  dig : Dig 10 os
  sum : val 10 os + 10 ^ (18 * m + k) * l = val B18 (xs.take (m + 1))
  lo : 0 ≤ l
  hi : l * 10 ^ k < B18
structure OfOut (xs os : List Int) (m : Nat) : Prop where
  len : os.length = 18 * m
  dig : Dig 10 os
  sum : val 10 os = val B18 (xs.take m)
theorem pow18 (m : Nat) : (10 : Int) ^ (18 * m) = B18 ^ m := by
  have e : B18 = 10 ^ 18 := by decide
  rw [e, ← Int.pow_mul]
theorem OfOut.enter {xs os : List Int} {m : Nat} (h : OfOut xs os m) (hx : Dig B18 xs) : OfIn xs os m 0 (xs.getD m 0) :=
  ⟨h.len, h.dig, by rw [Nat.add_zero, pow18, val_take', h.sum], (hx m).1, by simpa using (hx m).2⟩
theorem OfIn.lt {xs os : List Int} {m k : Nat} {l : Int} (h : OfIn xs os m k l) : l < 1000000000000000000 := by
  have h1 := h.hi
  have h2 := pow_pos' (by decide : (0 : Int) < 10) k
  have h3 : l * 1 ≤ l * 10 ^ k := Int.mul_le_mul_of_nonneg_left (by omega) h.lo
  rw [B18] at h1
  omega
theorem OfIn.step {xs os : List Int} {m k : Nat} {l : Int} (h : OfIn xs os m k l) : OfIn xs (os ++ [l % 10]) m (k + 1) (l / 10) := by
  have h0 := h.lo
  refine ⟨by rw [List.length_append, h.len]; simp; omega, h.dig.append (Dig.cons (by omega) (Dig.nil (by decide))), ?_, by omega, ?_⟩
  · rw [val_snoc, h.len, ← Nat.add_assoc, Int.pow_succ]
    have h1 := h.sum
    have h2 : l = l % 10 + 10 * (l / 10) := by omega
    have h3 : (10 : Int) ^ (18 * m + k) * l = 10 ^ (18 * m + k) * (l % 10 + 10 * (l / 10)) := by rw [← h2]
    grind
  · have h1 := h.hi
    have h2 := pow_pos' (by decide : (0 : Int) < 10) k
    rw [Int.pow_succ]
    have h3 : 10 * (l / 10) * 10 ^ k ≤ l * 10 ^ k := Int.mul_le_mul_of_nonneg_right (by omega) (by omega)
    have h4 : l / 10 * (10 ^ k * 10) = 10 * (l / 10) * 10 ^ k := by grind
    omega
theorem OfIn.leave {xs os : List Int} {m : Nat} {l : Int} (h : OfIn xs os m 18 l) : OfOut xs os (m + 1) := by
  have h1 := h.hi
  have h0 := h.lo
  have e : l = 0 := by
    have : (10 : Int) ^ 18 = 1000000000000000000 := by decide
    rw [this, B18] at h1
    omega
  subst e
  exact ⟨by rw [h.len]; omega, h.dig, by have := h.sum; simpa using this⟩
theorem OfOut.nil (xs : List Int) : OfOut xs [] 0 := ⟨rfl, Dig.nil (by decide), by simp [val]⟩
set_option maxRecDepth 100000 in
set_option maxHeartbeats 1000000 in
theorem of_any (n1 : Bool) (u1 : Value) (xs : List Int) (z1 : Int) (w : World) (hr1 : Rd w u1 xs) (hs1 : Sgn B18 n1 xs z1) (hl1 : xs.length ≤ 100) :
    Calls Tryz.prog 23 #[.agg #[.bool n1, u1]] w (NumPost w z1) := by
  obtain ⟨i0, hi, hz0, hz1, hz2⟩ := info_parts infoU8
  obtain ⟨p1, c1, rfl, _, _, hp1⟩ := rd_form hr1
  have HP1 := Lib.hid hp1
  have HS1 := Lib.hid hs1
  clear hr1 hs1 hp1
  go_enter Tryz.func23, Tryz.ntmps23
  go_wp2_with fail
  generalize hw2 : World.alloc (World.alloc w _) _ = w2
  have hbx : Bx2 w2 w.heap.size n1 (.slice p1 xs.length c1) := by
    rw [← hw2]
    refine ⟨alloc_cell (by simp) _, alloc_cell (by simp) _, ?_, ?_, ?_, ?_, by simp⟩ <;> simp
  have HB2 := Lib.hid (show Below w.heap.size w w2 by rw [← hw2]; exact ((Below.refl _ _).alloc (Nat.le_refl _) _).alloc (by simp) _)
  clear hw2
  have HX2 := Lib.hid hbx
  have hlt2 := hbx.lt
  clear hbx
  go_loopw [3, 4] (fun v s wr => ∃ (m : Nat) (os : List Int), s = .int .i64 m ∧ m ≤ xs.length ∧ OfOut xs os m ∧ OB wr w2.heap.size v os ∧ Below w2.heap.size w2 wr) (fun _ s _ => xs.length - (intOf s).toNat)
  case atStart => exact ⟨0, [], by go_num, by omega, OfOut.nil _, OW.nil _ _, Below.refl _ _⟩
  case round =>
    obtain ⟨m, os, rfl, hm, hS, hO, hB⟩ := hrel
    have HS := Lib.hid hS
    have HO := Lib.hid hO
    have HB := Lib.hid hB
    have hx := HX2.out.keep hB
    have q0 := hx.x0
    have q1 := hx.x1
    have HX := Lib.hid hx
    clear hS hO hB hx
    by_cases hlt : m < xs.length
    · obtain ⟨b1, o1, rfl, hxx⟩ := HP1.out (by omega)
      have hcx := below_cell HB.out (below_cell HB2.out (hxx m hlt))
      clear hxx
      have hltz : (m : Int) < (xs.length : Int) := by omega
      have HE := Lib.hid (HS.out.enter HS1.out.canon.1)
      generalize xs.getD m 0 = l0 at hcx HE
      go_wp2_with fail
      obtain ⟨wo, rfl⟩ : ∃ wo : World, wo = wr := ⟨_, rfl⟩
      go_loopw [3, 5, 6] (fun v lv s wr => ∃ (k : Nat) (l : Int) (os : List Int), s = .int .i64 k ∧ lv = .int .u64 l ∧ k ≤ 18 ∧ OfIn xs os m k l ∧ OB wr w2.heap.size v os ∧ Below w2.heap.size w2 wr) (fun _ _ s _ => 18 - (intOf s).toNat)
      case atStart => exact ⟨0, l0, os, by go_num, rfl, by omega, HE.out, HO.out, HB.out⟩
      case round =>
        obtain ⟨k, l, os2, rfl, rfl, hk, hS, hO, hB⟩ := hrel
        have HSI := Lib.hid hS
        have HOI := Lib.hid hO
        have HBI := Lib.hid hB
        have hlo := hS.lo
        have hhi := hS.lt
        have hol := hS.len
        clear hS hO hB
        by_cases hk18 : k < 18
        · have hkz : (k : Int) < 18 := by omega
          go_wp2_with (at_builtin; refine wpList_append_own _ rfl _ _ 45 rfl w2.heap.size 5 i0 (.int .u8 0) 1 1 Tryz.underlying45 hi hz0 hz1 hz2 rfl (by decide) _ _ _ rfl (World.ownsRow.alloc HOI.out _) ⟨wr.heap.size, 0, none⟩ 1 1 [.int .u8 (l % 10)] rfl rfl (one_newO _ _ _) (by simp [Value.oneCell']) (by unfold maxLen; omega) (by omega) (by have := HBI.out.size; simp; omega) ?_; intro v' w4 hown' hgrow _)
          have HOn := Lib.hid (OW.snoc hown')
          have HBn := Lib.hid (HOI.out.grown HBI.out hgrow (Nat.le_refl _))
          have HSn := Lib.hid HSI.out.step
          clear hown' hgrow
          go_wp2
          go_roundw
          case rel => exact ⟨k + 1, l / 10, os2 ++ [l % 10], by go_num, rfl, by omega, HSn.out, HOn.out, HBn.out⟩
          case measure => simp [intOf]; omega
        · obtain rfl : k = 18 := by omega
          have HL := Lib.hid HSI.out.leave
          clear hol
          go_wp2
          go_roundw
          case rel => exact ⟨m + 1, os2, by go_num, by omega, HL.out, HOI.out, HBI.out⟩
          case measure => simp [intOf]; omega
    · have hltz : ¬ (m : Int) < (xs.length : Int) := by omega
      obtain rfl : m = xs.length := by omega
      have hlen := HS.out.len
      have HV := Lib.hid (HS.out.sum.trans (val_full B18 (Nat.le_refl _)))
      have HMI := Lib.hid HO.out.mine
      have hrb := HO.out.rb (by omega)
      obtain ⟨p, cc, rfl, _, _, _⟩ := rb_form hrb
      have HRB := Lib.hid hrb
      have r0 := HX.out.r0
      have r1 := HX.out.r1
      have f0 := HX.out.f0
      have f1 := HX.out.f1
      have hlt := HX.out.lt
      have HCUT := Lib.hid (fun (wx : World) (hx : Below wr.heap.size wr wx) => cut_any p cc os wx (HRB.out.keep hx))
      rw [hlen] at HCUT
      clear hrb
      go_wp2_with fail
      go_region_held3 (fun w' => w'.cell? ⟨w.heap.size, 0, none⟩ = some (.bool n1))
        (first | assumption | exact cell_set2 (by omega) (by assumption) _ _ | go_keep)
        ((go_at_call 37; refine (HCUT.out _ (by first | exact Below.refl _ _ | exact (Below.refl _ _).drew)).mono ?_; rintro e w5 ⟨kk, hkk, rfl, rfl⟩; have HKK := Lib.hid hkk; clear hkk))
      go_wp2_with fail
      have zz := two_setW (x0 := .bool n1) (x1 := .slice p kk cc) r0 r1
      have hcut := HKK.out.canon (b := 10) (by decide) HS.out.dig
      refine bodyPost_ret (v := .agg #[.bool n1, .slice p kk cc]) (by simp [results, Tryz.results23, go_sem, zz.1, zz.2]) rfl ⟨n1, _, _, rfl, ((HMI.out.cut HKK.out.1).set2 hlt2 _ _).rb (by rw [hcut.2.2]; have := HKK.out.1; omega), HS1.out.rebase (by decide) (by decide) hcut.1 (by rw [hcut.2.1, HV.out]), ?_⟩
      exact ((((HB2.out.trans (HB.out.mono HB2.out.size)).setCell (by simp) _).setCell (by simp) _).drew)
end Go.Proofs.YthcijdlkaoppnaaGreatDoor
