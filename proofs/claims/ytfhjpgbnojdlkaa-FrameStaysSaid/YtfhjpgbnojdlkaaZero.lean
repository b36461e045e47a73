/- The contract of the function that tells whether all words of a list are 0. -/
import Derived.Test.YtfhjpgbnojdlkaaRight
namespace Go.Proofs.Ytfhjpgbnojdlkaa
open Go.ChangeShapes Go.WideShapes Go.ChangeAt Go.RowKit
set_option linter.unusedVariables false
set_option linter.unusedSimpArgs false
theorem or2 (a b : Int) (h1 : 0 ≤ a ∧ a ≤ 18446744073709551615) (h2 : 0 ≤ b ∧ b ≤ 18446744073709551615) :
    0 ≤ bits BinOp.or IntKind.u64 a b ∧ bits BinOp.or IntKind.u64 a b ≤ 18446744073709551615 ∧ (bits BinOp.or IntKind.u64 a b = 0 ↔ a = 0 ∧ b = 0) := by
  rw [u64_or a b h1.1 (by omega) h2.1 (by omega)]
  have hlt : a.toNat ||| b.toNat < 2 ^ 64 := Nat.or_lt_two_pow (by omega) (by omega)
  refine ⟨by omega, by omega, ?_⟩
  have : a.toNat ||| b.toNat = 0 ↔ a.toNat = 0 ∧ b.toNat = 0 := Nat.or_eq_zero_iff
  omega
theorem or8 (x0 x1 x2 x3 x4 x5 x6 x7 : Int) (h0 : 0 ≤ x0 ∧ x0 ≤ 18446744073709551615) (h1 : 0 ≤ x1 ∧ x1 ≤ 18446744073709551615) (h2 : 0 ≤ x2 ∧ x2 ≤ 18446744073709551615) (h3 : 0 ≤ x3 ∧ x3 ≤ 18446744073709551615) (h4 : 0 ≤ x4 ∧ x4 ≤ 18446744073709551615) (h5 : 0 ≤ x5 ∧ x5 ≤ 18446744073709551615) (h6 : 0 ≤ x6 ∧ x6 ≤ 18446744073709551615) (h7 : 0 ≤ x7 ∧ x7 ≤ 18446744073709551615) :
    (bits BinOp.or IntKind.u64 (bits BinOp.or IntKind.u64 (bits BinOp.or IntKind.u64 (bits BinOp.or IntKind.u64 (bits BinOp.or IntKind.u64 (bits BinOp.or IntKind.u64 (bits BinOp.or IntKind.u64 x0 x1) x2) x3) x4) x5) x6) x7) = 0 ↔ x0 = 0 ∧ x1 = 0 ∧ x2 = 0 ∧ x3 = 0 ∧ x4 = 0 ∧ x5 = 0 ∧ x6 = 0 ∧ x7 = 0 := by
  have g1 := or2 x0 x1 h0 h1
  have g2 := or2 _ x2 ⟨g1.1, g1.2.1⟩ h2
  have g3 := or2 _ x3 ⟨g2.1, g2.2.1⟩ h3
  have g4 := or2 _ x4 ⟨g3.1, g3.2.1⟩ h4
  have g5 := or2 _ x5 ⟨g4.1, g4.2.1⟩ h5
  have g6 := or2 _ x6 ⟨g5.1, g5.2.1⟩ h6
  have g7 := or2 _ x7 ⟨g6.1, g6.2.1⟩ h7
  rw [g7.2.2, g6.2.2, g5.2.2, g4.2.2, g3.2.2, g2.2.2, g1.2.2]
  simp only [and_assoc]
theorem all_take8 (xs : List Int) (k : Nat) (hk : k + 8 ≤ xs.length) (h : (xs.take k).all (· == 0) = true) (hx : ∀ i, i < 8 → xs.getD (k + i) 0 = 0) : (xs.take (k + 8)).all (· == 0) = true := by
  have s : ∀ i, i ≤ 8 → (xs.take (k + i)).all (· == 0) = true := by
    intro i
    induction i with
    | zero => intro _; exact h
    | succ i ih =>
      intro hi
      rw [← Nat.add_assoc, all_take_succ _ _ _ (by omega), ih (by omega), hx i (by omega)]
      rfl
  exact s 8 (by omega)
theorem all_not8 (xs : List Int) (k : Nat) (hk : k + 8 ≤ xs.length) (hx : ¬ ∀ i, i < 8 → xs.getD (k + i) 0 = 0) : xs.all (· == 0) = false := by
  rcases Classical.not_forall.1 hx with ⟨i, hi⟩
  rcases Classical.not_imp.1 hi with ⟨h1, h2⟩
  exact all_false_of _ _ (k + i) (by omega) (by simpa using h2)
def lenOfV : Value → Nat | .slice _ n _ => n | _ => 0
theorem cut8 (b off k c n : Nat) (h : n ≤ c) : ∃ o', (if c - k = 8 then some (⟨b, off + k, none⟩ : Addr) else some ⟨b, off + k + 8, none⟩) = some ⟨b, o', none⟩ ∧ (k + 8 < n → o' = off + (k + 8)) := by
  by_cases e : c - k = 8
  · exact ⟨off + k, by rw [if_pos e], fun _ => by omega⟩
  · exact ⟨off + k + 8, by rw [if_neg e], fun _ => by omega⟩
set_option maxRecDepth 100000 in
set_option maxHeartbeats 2000000 in
theorem allzero (v : Value) (xs : List Int) (w : World) (hr : Rd w v xs) (hf : Fit xs) :
    Calls Try.prog 58 #[v] w fun e w' => e = .returned (.bool (xs.all (· == 0))) ∧ ∃ q, w' = w.drewN q := by
  rcases hr with ⟨p0, rfl, rfl⟩ | ⟨b, off, c, rfl, hl1, hc, hcell⟩
  · go_enter Try.func58, Try.ntmps58
    go_wp2
    go_loop [0] (fun s => s = .slice p0 0 0) (fun _ => 0)
    case atStart => rfl
    case round =>
      obtain rfl := hrel
      go_wp2_with fail
      go_loop [44] (fun i => i = .int .i64 0) (fun _ => 0)
      case atStart => rfl
      case round =>
        obtain rfl := hrel
        go_wp2_with fail
        go_ret
        exact ⟨rfl, 0, rfl⟩
  · have hcellat : ∀ k x, k < xs.length → xs.getD k 0 = x → w.cell? ⟨b, off + k, none⟩ = some (.int .u64 x) := fun i x hi hx => by rw [hcell i hi, hx]
    clear hcell
    go_enter Try.func58, Try.ntmps58
    go_wp2
    go_loopw [0] (fun s wr => ∃ k o q, s = .slice (some ⟨b, o, none⟩) (xs.length - k) (c - k) ∧ wr = w.drewN q ∧ k ≤ xs.length ∧ (k < xs.length → o = off + k) ∧ (xs.take k).all (· == 0) = true)
      (fun s _ => lenOfV s)
    case atStart => exact ⟨0, off, 0, rfl, rfl, by omega, fun _ => rfl, by simp⟩
    case round =>
      obtain ⟨k, o, q, rfl, rfl, hk, ho, hall0⟩ := hrel
      have hall := Lib.hid hall0
      clear hall0
      by_cases h8 : 8 ≤ xs.length - k
      · obtain rfl := ho (by omega)
        obtain ⟨x0, e0⟩ : ∃ x, x = xs.getD (k + 0) 0 := ⟨_, rfl⟩
        have c0 := hcellat (k + 0) x0 (by omega) e0.symm
        have f0 := hf.at (k + 0)
        rw [← e0] at f0
        obtain ⟨x1, e1⟩ : ∃ x, x = xs.getD (k + 1) 0 := ⟨_, rfl⟩
        have c1 := hcellat (k + 1) x1 (by omega) e1.symm
        have f1 := hf.at (k + 1)
        rw [← e1] at f1
        obtain ⟨x2, e2⟩ : ∃ x, x = xs.getD (k + 2) 0 := ⟨_, rfl⟩
        have c2 := hcellat (k + 2) x2 (by omega) e2.symm
        have f2 := hf.at (k + 2)
        rw [← e2] at f2
        obtain ⟨x3, e3⟩ : ∃ x, x = xs.getD (k + 3) 0 := ⟨_, rfl⟩
        have c3 := hcellat (k + 3) x3 (by omega) e3.symm
        have f3 := hf.at (k + 3)
        rw [← e3] at f3
        obtain ⟨x4, e4⟩ : ∃ x, x = xs.getD (k + 4) 0 := ⟨_, rfl⟩
        have c4 := hcellat (k + 4) x4 (by omega) e4.symm
        have f4 := hf.at (k + 4)
        rw [← e4] at f4
        obtain ⟨x5, e5⟩ : ∃ x, x = xs.getD (k + 5) 0 := ⟨_, rfl⟩
        have c5 := hcellat (k + 5) x5 (by omega) e5.symm
        have f5 := hf.at (k + 5)
        rw [← e5] at f5
        obtain ⟨x6, e6⟩ : ∃ x, x = xs.getD (k + 6) 0 := ⟨_, rfl⟩
        have c6 := hcellat (k + 6) x6 (by omega) e6.symm
        have f6 := hf.at (k + 6)
        rw [← e6] at f6
        obtain ⟨x7, e7⟩ : ∃ x, x = xs.getD (k + 7) 0 := ⟨_, rfl⟩
        have c7 := hcellat (k + 7) x7 (by omega) e7.symm
        have f7 := hf.at (k + 7)
        rw [← e7] at f7
        rw [show off + (k + 0) = off + k by omega] at c0
        rw [show off + (k + 1) = off + k + 1 by omega] at c1
        rw [show off + (k + 2) = off + k + 2 by omega] at c2
        rw [show off + (k + 3) = off + k + 3 by omega] at c3
        rw [show off + (k + 4) = off + k + 4 by omega] at c4
        rw [show off + (k + 5) = off + k + 5 by omega] at c5
        rw [show off + (k + 6) = off + k + 6 by omega] at c6
        rw [show off + (k + 7) = off + k + 7 by omega] at c7
        have hiff : (∀ i, i < 8 → xs.getD (k + i) 0 = 0) ↔ x0 = 0 ∧ x1 = 0 ∧ x2 = 0 ∧ x3 = 0 ∧ x4 = 0 ∧ x5 = 0 ∧ x6 = 0 ∧ x7 = 0 := by
          rw [e0, e1, e2, e3, e4, e5, e6, e7]
          constructor
          · intro h; exact ⟨h 0 (by omega), h 1 (by omega), h 2 (by omega), h 3 (by omega), h 4 (by omega), h 5 (by omega), h 6 (by omega), h 7 (by omega)⟩
          · rintro ⟨g0, g1, g2, g3, g4, g5, g6, g7⟩ i hi
            rcases (by omega : i = 0 ∨ i = 1 ∨ i = 2 ∨ i = 3 ∨ i = 4 ∨ i = 5 ∨ i = 6 ∨ i = 7) with rfl | rfl | rfl | rfl | rfl | rfl | rfl | rfl <;> assumption
        have hor := or8 x0 x1 x2 x3 x4 x5 x6 x7 f0 f1 f2 f3 f4 f5 f6 f7
        have Hif := Lib.hid (hor.trans hiff.symm)
        clear hiff hor e0 e1 e2 e3 e4 e5 e6 e7 hcellat ho
        have hlen8 : (8 : Int) ≤ ((xs.length - k : Nat) : Int) := by omega
        have n0 : 0 < xs.length - k := by omega
        have j0 : (0 : Int) < ((xs.length - k : Nat) : Int) := by omega
        have j1 : (1 : Int) < ((xs.length - k : Nat) : Int) := by omega
        have j2 : (2 : Int) < ((xs.length - k : Nat) : Int) := by omega
        have j3 : (3 : Int) < ((xs.length - k : Nat) : Int) := by omega
        have j4 : (4 : Int) < ((xs.length - k : Nat) : Int) := by omega
        have j5 : (5 : Int) < ((xs.length - k : Nat) : Int) := by omega
        have j6 : (6 : Int) < ((xs.length - k : Nat) : Int) := by omega
        have j7 : (7 : Int) < ((xs.length - k : Nat) : Int) := by omega
        by_cases hz : (bits BinOp.or IntKind.u64 (bits BinOp.or IntKind.u64 (bits BinOp.or IntKind.u64 (bits BinOp.or IntKind.u64 (bits BinOp.or IntKind.u64 (bits BinOp.or IntKind.u64 (bits BinOp.or IntKind.u64 x0 x1) x2) x3) x4) x5) x6) x7) = 0
        · have hyes := Lib.hid (all_take8 xs k (by omega) hall.out (Hif.out.1 hz))
          have hzb : ((bits BinOp.or IntKind.u64 (bits BinOp.or IntKind.u64 (bits BinOp.or IntKind.u64 (bits BinOp.or IntKind.u64 (bits BinOp.or IntKind.u64 (bits BinOp.or IntKind.u64 (bits BinOp.or IntKind.u64 x0 x1) x2) x3) x4) x5) x6) x7) != 0) = false := by simpa using hz
          clear hz
          go_wp2_with fail
          go_quiet (fail)
          go_wp2_with fail
          obtain ⟨o', ho1, ho2⟩ := cut8 b off k c xs.length hl1
          refine ⟨⟨k + 8, o', _, by rw [ho1, Nat.sub_sub, Nat.sub_sub], rfl, by omega, ho2, hyes.out⟩, ?_⟩
          simp only [lenOfV]
          omega
        · have hno := Lib.hid (all_not8 xs k (by omega) (fun h => hz (Hif.out.2 h)))
          have hzb : ((bits BinOp.or IntKind.u64 (bits BinOp.or IntKind.u64 (bits BinOp.or IntKind.u64 (bits BinOp.or IntKind.u64 (bits BinOp.or IntKind.u64 (bits BinOp.or IntKind.u64 (bits BinOp.or IntKind.u64 x0 x1) x2) x3) x4) x5) x6) x7) != 0) = true := by simpa using hz
          clear hz
          go_wp2_with fail
          go_quiet (fail)
          go_wp2_with fail
          go_ret
          exact ⟨by rw [hno.out]; rfl, _, World.drewN_drewN _ _ _⟩
      · have hnd : decide ((8 : Int) ≤ ((xs.length - k : Nat) : Int)) = false := by rw [decide_eq_false_iff_not]; omega
        have hmax : xs.length - k ≤ 140737488351232 := by omega
        go_wp2_with fail
        go_loop [44] (fun i => ∃ m : Nat, i = .int .i64 m ∧ m ≤ xs.length - k ∧ (xs.take (k + m)).all (· == 0) = true) (fun i => (xs.length - k) - (intOf i).toNat)
        case atStart => exact ⟨0, by go_num, by omega, hall.out⟩
        case round =>
          obtain ⟨m, rfl, hm, hall1⟩ := hrel
          have Hall := Lib.hid hall1
          clear hall1
          by_cases hlt : m < xs.length - k
          · obtain rfl := ho (by omega)
            obtain ⟨x, e⟩ : ∃ x, x = xs.getD (k + m) 0 := ⟨_, rfl⟩
            have cx := hcellat (k + m) x (by omega) e.symm
            rw [show off + (k + m) = off + k + m by omega] at cx
            have E := Lib.hid e
            clear e hcellat ho
            by_cases hx0 : x = 0
            · have hyes : Hid ((xs.take (k + (m + 1))).all (· == 0) = true) := by
                unfold Hid; rw [← Nat.add_assoc, all_take_succ _ _ _ (by omega), Hall.out, ← E.out, hx0]; rfl
              have hx1 : (x != 0) = false := by simpa using hx0
              clear hx0
              go_wp2_with fail
              go_round
              case rel => exact ⟨m + 1, by go_num, by omega, hyes.out⟩
              case measure => simp [intOf]; omega
            · have hno : Hid (xs.all (· == 0) = false) := all_false_of _ _ (k + m) (by omega) (by rw [← E.out]; simpa using hx0)
              have hx1 : (x != 0) = true := by simpa using hx0
              clear hx0
              go_wp2_with fail
              go_ret
              exact ⟨by rw [hno.out]; rfl, _, rfl⟩
          · go_wp2_with fail
            go_ret
            have h := Hall.out
            rw [List.take_of_length_le (by omega)] at h
            exact ⟨by rw [h]; rfl, _, rfl⟩
end Go.Proofs.Ytfhjpgbnojdlkaa
