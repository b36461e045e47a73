/- Layer 2: whole.mulAdd: a limb times a limb, with two more. Layer 2: whole.mulSizes: the product of two rows of limbs. -/
import Derived.Test.YtpflbnddjclndaaGreatDoorPWDivBase
import Derived.Test.YtpflbnddjclndaaGreatDoorPGWd
import Derived.Test.YtpflbnddjclndaaGreatDoorPWMulMath
import Derived.Deep.RegionWith
import Derived.Outline
namespace Go.Proofs.YtpflbnddjclndaaGreatDoor
section
open Go.ChangeShapes Go.WideShapes Go.ChangeAt Go.RowKit
set_option linter.unusedVariables false
set_option linter.unusedSimpArgs false
theorem div64_none (lo y : Int) (hl : 0 ≤ lo ∧ lo ≤ 18446744073709551615) (hy : 0 < y ∧ y ≤ 18446744073709551615) (w : World) :
    Calls Tryz.prog 82 #[.int .u64 0, .int .u64 lo, .int .u64 y] w (D64Q w 0 lo y) := by
  have h0 : (y == 0) = false := by simp; omega
  have h0' : ¬ y = 0 := by omega
  have h1 : ¬ y ≤ 0 := by omega
  go_enter Tryz.func82, Tryz.ntmps82
  go_wp2
  go_region
  go_wp2
  go_ret2
  exact ⟨lo / y, lo % y, rfl, by rw [Int.mul_comm (lo / y)]; have := Int.mul_ediv_add_emod lo y; omega, Int.ediv_nonneg hl.1 (by omega), Int.emod_nonneg _ h0', Int.emod_lt_of_pos _ hy.1, 1, rfl⟩
theorem div64_b18 (hi lo : Int) (hh : 0 ≤ hi ∧ hi < 1000000000000000000) (hl : 0 ≤ lo ∧ lo ≤ 18446744073709551615) (w : World) :
    Calls Tryz.prog 82 #[.int .u64 hi, .int .u64 lo, .int .u64 1000000000000000000] w (D64Q w hi lo 1000000000000000000) := by
  by_cases h : hi = 0
  · subst h; exact div64_none lo _ hl (by omega) w
  · exact div64_base hi lo (by omega) hl w
theorem mul64_any (x y : Int) (hx : 0 ≤ x ∧ x ≤ 18446744073709551615) (hy : 0 ≤ y ∧ y ≤ 18446744073709551615) (w : World) :
    Calls Tryz.prog 80 #[.int .u64 x, .int .u64 y] w fun e w' => (∃ hi lo : Int, e = .returned (.tuple #[.int .u64 hi, .int .u64 lo]) ∧ hi * 18446744073709551616 + lo = x * y ∧ 0 ≤ hi ∧ 0 ≤ lo ∧ lo ≤ 18446744073709551615) ∧ w = w' := by
  obtain ⟨x, rfl⟩ := Int.eq_ofNat_of_zero_le hx.1
  obtain ⟨y, rfl⟩ := Int.eq_ofNat_of_zero_le hy.1
  refine (Tryz.bits_Mul64 x y (by omega) (by omega) w).mono ?_
  rintro e w' ⟨rfl, rfl⟩
  refine ⟨⟨_, _, rfl, ?_, by omega, by omega, by omega⟩, rfl⟩
  rw [← Int.natCast_mul]
  generalize x * y = z
  omega
/-- mulAdd's answer. -/
def MulAddQ (W : World) (p q r s : Int) (e : Ending) (w' : World) : Prop :=
  ∃ l c : Int, e = .returned (.tuple #[.int .u64 l, .int .u64 c]) ∧ p * q + r + s = c * B18 + l ∧ (0 ≤ l ∧ l < B18) ∧ (0 ≤ c ∧ c < B18) ∧ ∃ n, w' = W.drewN n
set_option maxRecDepth 100000 in
set_option maxHeartbeats 4000000 in
theorem mulAdd_any (p q r s : Int) (hp : 0 ≤ p ∧ p < B18) (hq : 0 ≤ q ∧ q < B18) (hr : 0 ≤ r ∧ r < B18) (hs : 0 ≤ s ∧ s < B18) (w : World) :
    Calls Tryz.prog 64 #[.int .u64 p, .int .u64 q, .int .u64 r, .int .u64 s] w (MulAddQ w p q r s) := by
  have HB := Lib.hid (mul_bound hp hq hr hs)
  have HP := Lib.hid hp
  have HQ := Lib.hid hq
  have hr2 : 0 ≤ r ∧ r ≤ 18446744073709551615 := by rw [B18] at hr; omega
  have hs2 : 0 ≤ s ∧ s ≤ 18446744073709551615 := by rw [B18] at hs; omega
  have hp2 : 0 ≤ p ∧ p ≤ 18446744073709551615 := by rw [B18] at hp; omega
  have hq2 : 0 ≤ q ∧ q ≤ 18446744073709551615 := by rw [B18] at hq; omega
  have HR := Lib.hid hr
  have HS := Lib.hid hs
  clear hp hq hr hs
  go_enter Tryz.func64, Tryz.ntmps64
  go_wp2_with (go_at_call 80; (with_reducible refine (mul64_any p q hp2 hq2 _).mono ?_); rintro e w2 ⟨⟨hi, lo, rfl, hm, hi0, lo0, lo1⟩, rfl⟩; have HM := Lib.hid hm; clear hm)
  obtain ⟨lo2, c, hadd, hac, hl0, hl1, hq0, hq1⟩ := add64_at lo r ⟨lo0, lo1⟩ hr2 w
  rw [hadd]
  have hm := HM.out
  have hb := HB.out
  simp only [B18] at hb
  generalize p * q = z at hm hb
  have hhi : hi + c + 1 ≤ 1000000000000000000 := by omega
  have hwr : IntKind.u64.wrap (hi + c) = hi + c := by rw [IntKind.wrap_u64]; omega
  have HAC := Lib.hid hac
  clear hadd hm hb hac
  go_wp2_with fail
  obtain ⟨lo3, d, hadd, had, hl2, hl3, hd0, hd1⟩ := add64_at lo2 s ⟨hl0, hl1⟩ hs2 w
  rw [hadd]
  have hm := HM.out
  have hb := HB.out
  have hac := HAC.out
  simp only [B18] at hb
  generalize hz : p * q = z at hm hb
  have hhi2 : 0 ≤ hi + c + d ∧ hi + c + d < 1000000000000000000 := by omega
  have hwr2 : IntKind.u64.wrap (hi + c + d) = hi + c + d := by rw [IntKind.wrap_u64]; omega
  have HE := Lib.hid (show (hi + c + d) * 18446744073709551616 + lo3 = p * q + r + s by rw [hz]; omega)
  clear hadd hm hb hac had hz
  go_wp2_with (go_at_call 82; (with_reducible refine (div64_b18 _ _ hhi2 ⟨hl2, hl3⟩ _).mono ?_); rintro e w3 ⟨k, l, rfl, hkl, hk0, hl0', hl1', n, rfl⟩; have HK := Lib.hid hkl; clear hkl)
  go_ret2
  have he := HE.out
  have hk := HK.out
  have hb := HB.out
  rw [he] at hk
  simp only [B18] at hb
  have hkb : k < 1000000000000000000 := by omega
  exact ⟨l, k, rfl, hk, ⟨hl0', hl1'⟩, ⟨hk0, hkb⟩, n, rfl⟩
end
section
open Go.ChangeShapes Go.WideShapes Go.ChangeAt Go.RowKit
set_option linter.unusedVariables false
set_option linter.unusedSimpArgs false
def MulPost (W : World) (xs ys : List Int) (e : Ending) (w' : World) : Prop :=
  ∃ g os, e = .returned (.slice (some ⟨g, 0, none⟩) os.length os.length) ∧ W.heap.size ≤ g ∧ LU w' g os ∧ os.length = xs.length + ys.length ∧ Dig B18 os ∧ val B18 os = val B18 xs * val B18 ys ∧ Below W.heap.size W w'
theorem LR.drewN {k : IntKind} {T : TypeId} {w : World} {g : Nat} {ws : List Int} (h : LR k T w g ws) (n : Nat) : LR k T (w.drewN n) g ws := h
theorem drewN_cell {W : World} {a : Addr} {v : Value} (h : W.cell? a = some v) (n : Nat) : (W.drewN n).cell? a = some v := h
theorem cell_set1 {w : World} {B C i j : Nat} {v : Value} (h : B ≠ C) (hc : w.cell? ⟨B, i, none⟩ = some v) (x : Value) : (w.setCell ⟨C, j, none⟩ x).cell? ⟨B, i, none⟩ = some v :=
  (World.cell?_setCell_other _ _ _ _ (fun e => h (by cases e; rfl))).trans hc
theorem belowN {B : Nat} {w w' : World} (h : Below B w w') (n : Nat) : Below B w (w'.drewN n) := by
  induction n with
  | zero => exact h
  | succ n ih => exact ih.drew
set_option maxRecDepth 100000 in
set_option maxHeartbeats 8000000 in
theorem mulSizes_any (u1 u2 : Value) (xs ys : List Int) (w : World) (h1 : Rd w u1 xs) (h2 : Rd w u2 ys) (hx : Dig B18 xs) (hy : Dig B18 ys) (hl1 : xs.length ≤ 1000) (hl2 : ys.length ≤ 1000) :
    Calls Tryz.prog 50 #[u1, u2] w (MulPost w xs ys) := by
  obtain ⟨p1, c1, rfl, hc1, hm1, hp1⟩ := rd_form h1
  obtain ⟨p2, c2, rfl, hc2, hm2, hp2⟩ := rd_form h2
  have HP1 := Lib.hid hp1
  have HP2 := Lib.hid hp2
  have HX := Lib.hid hx
  have HY := Lib.hid hy
  clear h1 h2 hc1 hc2 hx hy hp1 hp2 hm1 hm2
  have hmk := run_make_row' (P := Tryz.prog) 28 22 (.int .u64 0) 8 Tryz.underlying28 infoU64 rfl .i64 .i64 (xs.length + ys.length) (by omega) (by omega)
  rw [show ((xs.length + ys.length : Nat) : Int) = (xs.length : Int) + (ys.length : Int) by omega] at hmk
  have HGG := Lib.hid (show LU (w.alloc (.cells (madeCells #[Value.int .u64 0] (xs.length + ys.length)) 22)) w.heap.size (List.replicate (xs.length + ys.length) 0) from LR.made (k := .u64) (T := 22) w (xs.length + ys.length))
  have HBB := Lib.hid (show Below w.heap.size w (w.alloc (.cells (madeCells #[Value.int .u64 0] (xs.length + ys.length)) 22)) from (Below.refl _ _).alloc (Nat.le_refl _) _)
  go_enter Tryz.func50, Tryz.ntmps50
  go_wp2_with fail
  generalize hw1 : World.alloc w _ = w1 at HGG HBB
  clear hw1 hmk
  go_loopw [7, 17] (fun cv s wr => ∃ (i : Nat) (os : List Int), s = .int .i64 i ∧ i ≤ xs.length ∧ MulOut xs ys os i ∧ LU wr w.heap.size os ∧ Below w.heap.size w wr) (fun _ s _ => xs.length - (intOf s).toNat)
  case atStart => exact ⟨0, _, by go_num, by omega, MulOut.start xs ys, HGG.out, HBB.out⟩
  case round =>
    obtain ⟨i, os, rfl, hi, hS, hL, hB⟩ := hrel
    obtain ⟨wo, rfl⟩ : ∃ wo : World, wo = wr := ⟨_, rfl⟩
    have HS := Lib.hid hS
    have HL := Lib.hid hL
    have HB := Lib.hid hB
    clear hS hL hB
    by_cases hlt : i < xs.length
    · have hiz : (i : Int) < (xs.length : Int) := by omega
      go_wp2_with fail
      go_loopw [7, 8, 22] (fun cv s0 s wr => ∃ (j : Nat) (c : Int) (os : List Int), s = .int .i64 j ∧ cv = .int .u64 c ∧ j ≤ ys.length ∧ MulIn xs ys os i j c ∧ LU wr w.heap.size os ∧ Below w.heap.size w wr) (fun _ _ s _ => ys.length - (intOf s).toNat)
      case atStart => exact ⟨0, 0, _, by go_num, rfl, by omega, HS.out.enter, HL.out, HB.out⟩
      case round =>
        obtain ⟨j, c, os2, rfl, rfl, hj, hS2, hL2, hB2⟩ := hrel
        have HS2 := Lib.hid hS2
        have HL2 := Lib.hid hL2
        have HB2 := Lib.hid hB2
        have hol := hS2.len
        clear hS2 hL2 hB2
        by_cases hltj : j < ys.length
        · have hjz : (j : Int) < (ys.length : Int) := by omega
          obtain ⟨b1, o1, rfl, hca⟩ := HP1.out (by omega)
          obtain ⟨b2, o2, rfl, hcb⟩ := HP2.out (by omega)
          have ka := below_cell HB2.out (hca i hlt)
          have kb := below_cell HB2.out (hcb j hltj)
          have ko := HL2.out.cell (i := i + j) (by omega)
          have hfr := HL2.out.frozen (i + j)
          have hba := HX.out i
          have hbb := HY.out j
          have hbo := HS2.out.dig (i + j)
          have hbc : 0 ≤ c ∧ c < B18 := ⟨HS2.out.lo, HS2.out.hi⟩
          have HN := Lib.hid (fun c' l (e : xs.getD i 0 * ys.getD j 0 + os2.getD (i + j) 0 + c = c' * B18 + l) hl hc => HS2.out.step (c' := c') (l := l) hlt hltj e hl hc)
          generalize xs.getD i 0 = x at ka hba HN
          generalize ys.getD j 0 = y at kb hbb HN
          generalize os2.getD (i + j) 0 = z at ko hbo HN
          have HC := Lib.hid (fun wx => mulAdd_any x y z c hba hbb hbo hbc wx)
          have hij : (i : Int) + (j : Int) < (xs.length : Int) + (ys.length : Int) := by omega
          have hij0 : (0 : Int) ≤ (i : Int) + (j : Int) := by omega
          have hijn : i + j < xs.length + ys.length := by omega
          have hwij : IntKind.i64.wrap ((i : Int) + (j : Int)) = (i : Int) + (j : Int) := by rw [IntKind.wrap_i64]; omega
          have htn : ((i : Int) + (j : Int)).toNat = i + j := by omega
          have hn1 : b1 ≠ w.heap.size := Nat.ne_of_lt (World.block_lt_of_cell? w ⟨b1, _, none⟩ (hca i hlt))
          have hn2 : b2 ≠ w.heap.size := Nat.ne_of_lt (World.block_lt_of_cell? w ⟨b2, _, none⟩ (hcb j hltj))
          clear hca hcb hba hbb hbo hbc
          go_wp2_with fail
          go_region_with (go_at_call 64; (with_reducible refine (HC.out _).mono ?_); rintro e w3 ⟨l, c', rfl, he, hl, hc, n, rfl⟩; have HE := Lib.hid (HN.out c' l he hl hc); have ko2 := drewN_cell ko n; have hfr2 := (HL2.out.drewN n).frozen (i + j); clear he hl hc)
          all_goals
            go_wp2_with fail
            go_roundw
            case rel => exact ⟨j + 1, c', _, by go_num, rfl, by omega, HE.out, (HL2.out.drewN _).set (i + j) l, (belowN HB2.out _).setCell (Nat.le_refl _) _⟩
            case measure => simp [intOf]; omega
        · obtain rfl : j = ys.length := by omega
          have hol2 : i + ys.length < os2.length := by omega
          have ko := HL2.out.cell (i := i + ys.length) hol2
          have hfr := HL2.out.frozen (i + ys.length)
          have HE := Lib.hid (HS2.out.leave hlt)
          have hwij : IntKind.i64.wrap ((i : Int) + (ys.length : Int)) = (i : Int) + (ys.length : Int) := by rw [IntKind.wrap_i64]; omega
          have hb1 : (0 : Int) ≤ (i : Int) + (ys.length : Int) := by omega
          have hb2 : (i : Int) + (ys.length : Int) < (xs.length : Int) + (ys.length : Int) := by omega
          have htn : ((i : Int) + (ys.length : Int)).toNat = i + ys.length := by omega
          have HO := Lib.hid hol
          clear hol hol2
          go_wp2_with fail
          go_roundw
          case rel => exact ⟨i + 1, _, by go_num, by omega, HE.out, HL2.out.set _ _, HB2.out.setCell (Nat.le_refl _) _⟩
          case measure => simp [intOf]; omega
    · obtain rfl : i = xs.length := by omega
      have HL2 := Lib.hid HL.out
      have hol := HS.out.len
      have HD := Lib.hid HS.out.dig
      have HV := Lib.hid HS.out.done
      clear HL
      go_wp2_with fail
      go_ret
      exact ⟨w.heap.size, os, by rw [hol]; rfl, Nat.le_refl _, HL2.out, hol, HD.out, HV.out, HB.out⟩
end
end Go.Proofs.YtpflbnddjclndaaGreatDoor
