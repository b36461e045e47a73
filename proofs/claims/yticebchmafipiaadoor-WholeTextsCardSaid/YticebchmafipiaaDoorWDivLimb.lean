/- Layer 2: whole.divLimb: a row of limbs over one limb, over what Div64 answers. -/
import Derived.Test.YticebchmafipiaaDoorWDiv64
import Derived.Test.YticebchmafipiaaDoorShelf
import Derived.Shelf.Spec.BitsCarry
namespace Go.Proofs.YticebchmafipiaaDoor
open Go.ChangeShapes Go.WideShapes Go.ChangeAt Go.RowKit
set_option linter.unusedVariables false
set_option linter.unusedSimpArgs false
structure LimbState (xs os : List Int) (d : Int) (m : Nat) (rest : Int) : Prop where
  len : os.length = xs.length
  dig : Dig B18 os
  eq : val B18 (xs.drop m) = val B18 (os.drop m) * d + rest
  lo : 0 ≤ rest
  hi : rest < d
theorem LimbState.start (xs : List Int) {d : Int} (hd : 0 < d) : LimbState xs (List.replicate xs.length 0) d xs.length 0 :=
  ⟨by simp, fun i => by rw [List.getD_eq_getElem?_getD, List.getElem?_replicate]; split <;> simp [B18], by simp [val], Int.le_refl 0, hd⟩
theorem val_drop {b : Int} {ws : List Int} {k : Nat} (hk : k < ws.length) : val b (ws.drop k) = ws.getD k 0 + b * val b (ws.drop (k + 1)) := by
  rw [List.drop_eq_getElem_cons hk, List.getD_eq_getElem?_getD, List.getElem?_eq_getElem hk]
  rfl
theorem LimbState.step {xs os : List Int} {d rest q r : Int} {p : Nat} (h : LimbState xs os d (p + 1) rest) (hp : p < xs.length) (hx : Dig B18 xs) (e : rest * B18 + xs.getD p 0 = q * d + r) (hq : 0 ≤ q) (hr : 0 ≤ r ∧ r < d) : LimbState xs (os.set p q) d p r := by
  have hl := h.len
  have hb := hx p
  have hd : 0 < d := by omega
  have hqb : q < B18 := by
    refine Int.lt_of_not_ge fun hge => ?_
    have h1 : B18 * d ≤ q * d := Int.mul_le_mul_of_nonneg_right hge (by omega)
    have h2 : rest * B18 ≤ (d - 1) * B18 := Int.mul_le_mul_of_nonneg_right (by have := h.hi; omega) (by decide)
    rw [Int.sub_mul, Int.mul_comm d B18] at h2
    omega
  refine ⟨by rw [List.length_set]; exact hl, h.dig.set p q ⟨hq, hqb⟩, ?_, hr.1, hr.2⟩
  rw [val_drop hp, val_drop (ws := os.set p q) (by rw [List.length_set]; omega), h.eq, getD_set' _ _ _ _ (by omega), if_pos rfl, List.drop_set_of_lt (by omega)]
  have e2 : B18 * (val B18 (os.drop (p + 1)) * d + rest) = B18 * val B18 (os.drop (p + 1)) * d + rest * B18 := by rw [Int.mul_add, Int.mul_assoc, Int.mul_comm B18 rest]
  rw [e2, Int.add_mul]
  omega
theorem wide_step {rest x d : Nat} (hr : rest < d) (hx : x < 1000000000000000000) (hd : d < 1000000000000000000) :
    rest * 1000000000000000000 / 18446744073709551616 + (rest * 1000000000000000000 % 18446744073709551616 + x + 0) / 18446744073709551616 < d ∧
    (rest * 1000000000000000000 / 18446744073709551616 + (rest * 1000000000000000000 % 18446744073709551616 + x + 0) / 18446744073709551616) * 18446744073709551616 + (rest * 1000000000000000000 % 18446744073709551616 + x + 0) % 18446744073709551616 = rest * 1000000000000000000 + x := by
  omega
def LimbPost (W : World) (xs : List Int) (d : Int) (e : Ending) (w' : World) : Prop :=
  ∃ g qs r, e = .returned (.tuple #[.slice (some ⟨g, 0, none⟩) qs.length qs.length, .int .u64 r]) ∧ W.heap.size ≤ g ∧ LU w' g qs ∧ qs.length = xs.length ∧ Dig B18 qs ∧ val B18 xs = val B18 qs * d + r ∧ 0 ≤ r ∧ r < d ∧ Below W.heap.size W w'
theorem add64_run (x y c : Nat) (hc : c ≤ 1) (w : World) :
    (callFunc 71 #[.int .u64 x, .int .u64 y, .int .u64 c]).run Tryd.prog w =
      .ok (.value (.tuple #[.int .u64 (((x + y + c) % 18446744073709551616 : Nat) : Int), .int .u64 (((x + y + c) / 18446744073709551616 : Nat) : Int)])) w := by
  rw [run_callFunc_extern Tryd.func71 (by kernel_rfl) (by kernel_rfl) (by kernel_rfl) (e := add64Entry) (by kernel_rfl), run_add64 x y c (by omega) (by omega) (by omega) (by omega)]
  simp only [Result.andThen]
  congr 5 <;> omega
theorem mul64_at (x : Nat) (hx : x < 18446744073709551616) (w : World) :
    Calls Tryd.prog 70 #[.int .u64 x, .int .u64 1000000000000000000] w fun e w' => (∃ hi lo : Int, e = .returned (.tuple #[.int .u64 hi, .int .u64 lo]) ∧ hi * 18446744073709551616 + lo = x * 1000000000000000000 ∧ 0 ≤ hi ∧ 0 ≤ lo ∧ lo ≤ 18446744073709551615) ∧ w' = w := by
  refine (Tryd.bits_Mul64 x 1000000000000000000 hx (by omega) w).mono ?_
  rintro e w' ⟨rfl, rfl⟩
  exact ⟨⟨_, _, rfl, by omega, by omega, by omega, by omega⟩, rfl⟩
theorem add64_at (x y : Int) (hx : 0 ≤ x ∧ x ≤ 18446744073709551615) (hy : 0 ≤ y ∧ y ≤ 18446744073709551615) (w : World) :
    ∃ lo c : Int, Sem.run Tryd.prog (callFunc 71 #[.int .u64 x, .int .u64 y, .int .u64 0]) w = .ok (.value (.tuple #[.int .u64 lo, .int .u64 c])) w ∧ c * 18446744073709551616 + lo = x + y ∧ 0 ≤ lo ∧ lo ≤ 18446744073709551615 ∧ 0 ≤ c ∧ c ≤ 1 := by
  obtain ⟨x, rfl⟩ := Int.eq_ofNat_of_zero_le hx.1
  obtain ⟨y, rfl⟩ := Int.eq_ofNat_of_zero_le hy.1
  exact ⟨_, _, add64_run x y 0 (by omega) w, by omega, by omega, by omega, by omega, by omega⟩
set_option maxRecDepth 100000 in
set_option maxHeartbeats 4000000 in
theorem divLimb_any (u : Value) (xs : List Int) (d : Int) (w : World) (h1 : Rd w u xs) (hx : Dig B18 xs) (hd : 0 < d ∧ d < B18)
    (hD : ∀ (wx : World) (hi lo : Int), 0 ≤ hi → hi < d → 0 ≤ lo → lo ≤ 18446744073709551615 → (xs.length ≤ 1 → hi = 0) → Calls Tryd.prog 72 #[.int .u64 hi, .int .u64 lo, .int .u64 d] wx (D64Post wx hi lo d)) :
    Calls Tryd.prog 53 #[u, .int .u64 d] w (LimbPost w xs d) := by
  obtain ⟨p1, c1, rfl, hc1, hm1, hp1⟩ := rd_form h1
  have HP1 := Lib.hid hp1
  have HX := Lib.hid hx
  have HD := Lib.hid hD
  have HDD := Lib.hid hd
  clear h1 hc1 hx hp1 hD hd
  have hmk := run_make_row' (P := Tryd.prog) 22 50 (.int .u64 0) 8 Tryd.underlying22 infoU64 rfl .i64 .i64 xs.length (by omega) (by omega)
  have HGG := Lib.hid (show LU (w.alloc (.cells (madeCells #[Value.int .u64 0] xs.length) 50)) w.heap.size (List.replicate xs.length 0) from LR.made (k := .u64) (T := 50) w xs.length)
  have HBB := Lib.hid (show Below w.heap.size w (w.alloc (.cells (madeCells #[Value.int .u64 0] xs.length) 50)) from (Below.refl _ _).alloc (Nat.le_refl _) _)
  go_enter Tryd.func53, Tryd.ntmps53
  go_wp2_with fail
  generalize hw1 : World.alloc w _ = w1 at HGG HBB
  clear hw1 hmk
  go_loopw [7, 18] (fun cv s wr => ∃ (k : Nat) (rest : Int) (os : List Int), s = .int .i64 k ∧ cv = .int .u64 rest ∧ k ≤ xs.length ∧ (k = 0 → rest = 0) ∧ LimbState xs os d (xs.length - k) rest ∧ LU wr w.heap.size os ∧ Below w.heap.size w wr) (fun _ s _ => xs.length - (intOf s).toNat)
  case atStart => exact ⟨0, 0, _, by go_num, rfl, by omega, fun _ => rfl, LimbState.start xs HDD.out.1, HGG.out, HBB.out⟩
  case round =>
    obtain ⟨k, rest, os, rfl, rfl, hk, hr0, hS, hL, hB⟩ := hrel
    have HS := Lib.hid hS
    have HL := Lib.hid hL
    have HB := Lib.hid hB
    have hol := hS.len
    clear hS hL hB
    by_cases hlt : k < xs.length
    · obtain ⟨p, hp⟩ : ∃ p, xs.length = p + 1 + k := ⟨xs.length - 1 - k, by omega⟩
      obtain ⟨b, off, rfl, hcell⟩ := HP1.out (by omega)
      have hc := below_cell HB.out (hcell p (by omega))
      have hfr := HL.out.frozen p
      have hox := HL.out.cell (i := p) (by omega)
      have hlz : (k : Int) < (xs.length : Int) := by omega
      have hpz : (p : Int) < (xs.length : Int) := by omega
      have hp0 : (0 : Int) ≤ (p : Int) := by omega
      have hpn : p < xs.length := by omega
      have hw2 : (xs.length : Int) - 1 - (k : Int) = (p : Int) := by omega
      have HS2 := Lib.hid (show LimbState xs os d (p + 1) rest by have := HS.out; rwa [show xs.length - k = p + 1 by omega] at this)
      have hbx := HX.out p
      obtain ⟨x, hxe⟩ := Int.eq_ofNat_of_zero_le hbx.1
      obtain ⟨rn, rfl⟩ := Int.eq_ofNat_of_zero_le HS2.out.lo
      have HXE := Lib.hid hxe
      rw [hxe] at hc hbx
      rw [B18] at hbx
      have HQ := Lib.hid hp
      have HR0 := Lib.hid hr0
      have hrb : rn < 18446744073709551616 := by have h1 := HS2.out.hi; have h2 := HDD.out.2; rw [B18] at h2; omega
      have HRB := Lib.hid hrb
      clear hcell hxe HS hp hr0
      have hxb : 0 ≤ (x : Int) ∧ (x : Int) ≤ 18446744073709551615 := by omega
      go_wp2_with (go_at_call 70; (with_reducible refine (mul64_at rn HRB.out _).mono ?_); rintro e w2 ⟨⟨hi, lo, rfl, hm, hi0, lo0, lo1⟩, rfl⟩)
      obtain ⟨lo2, c, hadd, hac, hl0, hl1, hq0, hq1⟩ := add64_at lo x ⟨lo0, lo1⟩ hxb w2
      rw [hadd]
      have hlt2 : hi + c < d := by have h1 := HS2.out.hi; have h2 := HDD.out.2; rw [B18] at h2; omega
      have hdb := HDD.out.2
      rw [B18] at hdb
      have hwr : IntKind.u64.wrap (hi + c) = hi + c := by rw [IntKind.wrap_u64]; omega
      clear hadd
      go_wp2_with (go_at_call 72; (with_reducible refine (HD.out _ _ _ (by omega) hlt2 hl0 hl1 (fun h => by have h1 := HR0.out; have h2 := HQ.out; omega)).mono ?_); rintro e w3 ⟨q, r, rfl, hqr, hqq, hrr, hrd, hb3⟩; have HL3 := Lib.hid (HL.out.keep hb3); have HB3 := Lib.hid (HB.out.trans (hb3.mono HB.out.size)); have hfr3 := HL3.out.frozen p; have hox3 := HL3.out.cell (i := p) (by omega); clear hb3)
      have hex : ((rn : Int)) * B18 + xs.getD p 0 = q * d + r := by rw [HXE.out, B18]; omega
      have HS4 := Lib.hid (HS2.out.step hpn HX.out hex hqq ⟨hrr, hrd⟩)
      have hqk : xs.length - (k + 1) = p := by have := HQ.out; omega
      go_roundw
      case rel => exact ⟨k + 1, r, _, by go_num, rfl, by omega, fun h => by omega, by rw [hqk]; exact HS4.out, HL3.out.set p _, HB3.out.setCell (Nat.le_refl _) _⟩
      case measure => simp [intOf]; omega
    · obtain rfl : k = xs.length := by omega
      have HE := Lib.hid HS.out
      go_wp2
      go_ret2
      have hE := HE.out
      rw [Nat.sub_self] at hE
      exact ⟨w.heap.size, os, rest, by rw [hol]; rfl, Nat.le_refl _, HL.out, hol, hE.dig, by have := hE.eq; simpa using this, hE.lo, hE.hi, HB.out⟩
end Go.Proofs.YticebchmafipiaaDoor
