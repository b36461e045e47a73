/- The contract of the function that looks at tagged words: are they good, and addresses among them those of objects? -/
import Derived.Test.YtfhjpgbnojdlkaaStarts
namespace Go.Proofs.Ytfhjpgbnojdlkaa
open Go.ChangeShapes Go.WideShapes Go.ChangeAt Go.RowKit
set_option linter.unusedVariables false
set_option linter.unusedSimpArgs false
def rightW (l : List Nat) (x : Int) : Bool := !decide (kindOf x = 3) && (!decide (kindOf x = 0) || decide ((x / 4).toNat ∈ l))
theorem all_take_succ (p : Int → Bool) (xs : List Int) (k : Nat) (hk : k < xs.length) : (xs.take (k + 1)).all p = ((xs.take k).all p && p (xs.getD k 0)) := by
  rw [List.take_succ_eq_append_getElem hk, List.all_append]
  simp [List.getD_eq_getElem?_getD, List.getElem?_eq_getElem hk]
theorem all_false_of (p : Int → Bool) (xs : List Int) (k : Nat) (hk : k < xs.length) (h : p (xs.getD k 0) = false) : xs.all p = false := by
  rw [List.all_eq_false]
  refine ⟨xs.getD k 0, ?_, by rw [h]; simp⟩
  simp [List.getD_eq_getElem?_getD, List.getElem?_eq_getElem hk]
theorem bit_test (sv : Nat) (h : sv < 18446744073709551616) (j : Nat) : bits BinOp.and IntKind.u64 ((sv : Int) / 2 ^ j) 1 = if sv.testBit j then 1 else 0 := by
  have e : (sv : Int) / 2 ^ j = ((sv / 2 ^ j : Nat) : Int) := by
    rw [show (2 : Int) ^ j = ((2 ^ j : Nat) : Int) from (Int.natCast_pow 2 j).symm]; exact (Int.natCast_ediv _ _).symm
  have hq : sv / 2 ^ j ≤ sv := Nat.div_le_self _ _
  rw [e, Nat.testBit_eq_decide_div_mod_eq]
  generalize sv / 2 ^ j = q at *
  have := bits_mask .u64 64 (by decide) (fun n h₀ h₁ => by rw [u64w]; omega) 1 (by decide) (q : Int) (by omega) (by omega)
  rw [show (2 : Int) ^ 1 - 1 = 1 by rfl, show (2 : Int) ^ 1 = 2 by rfl] at this
  rw [this]
  by_cases h1 : q % 2 = 1
  · rw [decide_eq_true h1, if_pos rfl]; omega
  · rw [decide_eq_false h1, if_neg (by simp)]; omega
theorem StartsRow.read {w : World} {g n : Nat} {l : List Nat} (h : StartsRow w g n l) (k : Nat) (hk : k / 64 < n) :
    ∃ sv : Nat, w.cell? ⟨g, k / 64, none⟩ = some (.int .u64 sv) ∧ bits BinOp.and IntKind.u64 ((sv : Int) / 2 ^ (k % 64)) 1 = if k ∈ l then 1 else 0 := by
  obtain ⟨s, h1, h2, h3⟩ := h
  refine ⟨s (k / 64), h1.cell hk, ?_⟩
  rw [bit_test _ (h2 _)]
  have := h3 k
  unfold bitAt at this
  rw [this]
  by_cases hm : k ∈ l <;> simp [hm]
set_option maxRecDepth 100000 in
set_option maxHeartbeats 1000000 in
theorem rightwords (v : Value) (xs : List Int) (g n : Nat) (l : List Nat) (w : World) (hr : Rd w v xs) (hf : Fit xs) (hn : n ≤ 1048576) (hs : StartsRow w g n l) (hl : ∀ x ∈ l, x / 64 < n) :
    Calls Try.prog 60 #[v, .slice (some ⟨g, 0, none⟩) n n] w fun e w' => e = .returned (.bool (xs.all (rightW l))) ∧ w = w' := by
  rcases hr with ⟨p0, rfl, rfl⟩ | ⟨b, off, c, rfl, hl1, hc, hcell⟩
  · go_enter Try.func60, Try.ntmps60
    go_wp2
    go_loop [11] (fun i => i = .int .i64 0) (fun _ => 0)
    case atStart => rfl
    case round =>
      obtain rfl := hrel
      go_wp2_with fail
      go_ret
      exact ⟨rfl, rfl⟩
  · have hcellat : ∀ k x, k < xs.length → xs.getD k 0 = x → w.cell? ⟨b, off + k, none⟩ = some (.int .u64 x) := fun i x hi hx => by rw [hcell i hi, hx]
    clear hcell
    go_enter Try.func60, Try.ntmps60
    go_wp2
    go_loop [11] (fun i => ∃ k : Nat, i = .int .i64 k ∧ k ≤ xs.length ∧ (xs.take k).all (rightW l) = true) (fun i => xs.length - (intOf i).toNat)
    case atStart => exact ⟨0, by go_num, by omega, by simp⟩
    case round =>
      obtain ⟨k, rfl, hk, hall0⟩ := hrel
      have hall := Lib.hid hall0
      clear hall0
      by_cases hlt : k < xs.length
      · have hx := hf.at k
        obtain ⟨x, hxx⟩ : ∃ x, x = xs.getD k 0 := ⟨_, rfl⟩
        have hcx := hcellat k x hlt hxx.symm
        rw [← hxx] at hx
        have HX := Lib.hid hxx
        clear hxx hcellat
        have kb := kind_lo x
        rcases (by omega : kindOf x = 3 ∨ kindOf x = 0 ∨ (kindOf x = 1 ∨ kindOf x = 2)) with hk3 | hk0 | hk12
        · have hno : Hid (xs.all (rightW l) = false) := all_false_of _ _ k hlt (by rw [← HX.out]; simp [rightW, hk3])
          go_wp2_with fail
          refine (kind_any _ (wfu_mk hx) _).mono ?_
          rintro e w2 ⟨rfl, rfl⟩
          go_wp2_with fail
          go_ret
          exact ⟨by rw [hno.out]; rfl, rfl⟩
        · obtain ⟨p1, p2, p3, p4, p5⟩ := one_addr x hk0
          have hat : atV x = x / 4 := by unfold atV; rw [if_pos hk0]
          rw [hat] at p4 p5
          clear p1 p2 p3
          by_cases hin : x / 4 / 64 < n
          · obtain ⟨a, ha⟩ := Int.eq_ofNat_of_zero_le p4
            obtain ⟨sv, hsc, hbit⟩ := hs.read a (by omega)
            have hmx : (x / 4).toNat = a := by omega
            by_cases hm : a ∈ l
            · rw [if_pos hm] at hbit
              have hyes : Hid ((xs.take (k + 1)).all (rightW l) = true) := by
                unfold Hid; rw [all_take_succ _ _ _ hlt, hall.out, ← HX.out]; simp [rightW, hk0, hmx, hm]
              clear hmx
              go_wp2_with fail
              refine (kind_any _ (wfu_mk hx) _).mono ?_
              rintro e w2 ⟨rfl, rfl⟩
              go_wp2_with fail
              refine (at_any _ (wfu_mk hx) _).mono ?_
              rintro e w2 ⟨rfl, rfl⟩
              go_wp2_with fail
              go_round
              case rel => exact ⟨k + 1, by go_num, by omega, hyes.out⟩
              case measure => simp [intOf]; omega
            · rw [if_neg hm] at hbit
              have hno : Hid (xs.all (rightW l) = false) := all_false_of _ _ k hlt (by
                rw [← HX.out]; simp [rightW, hk0, hmx, hm])
              clear hmx
              go_wp2_with fail
              refine (kind_any _ (wfu_mk hx) _).mono ?_
              rintro e w2 ⟨rfl, rfl⟩
              go_wp2_with fail
              refine (at_any _ (wfu_mk hx) _).mono ?_
              rintro e w2 ⟨rfl, rfl⟩
              go_wp2_with fail
              go_ret
              exact ⟨by rw [hno.out]; rfl, rfl⟩
          · have hno : Hid (xs.all (rightW l) = false) := all_false_of _ _ k hlt (by
              rw [← HX.out]; simp [rightW, hk0]; intro hm; have := hl _ hm; omega)
            go_wp2_with fail
            refine (kind_any _ (wfu_mk hx) _).mono ?_
            rintro e w2 ⟨rfl, rfl⟩
            go_wp2_with fail
            refine (at_any _ (wfu_mk hx) _).mono ?_
            rintro e w2 ⟨rfl, rfl⟩
            go_wp2_with fail
            go_ret
            exact ⟨by rw [hno.out]; rfl, rfl⟩
        · have hne3 : (kindOf x == 3) = false := by rw [beq_eq_false_iff_ne]; omega
          have hne0 : (kindOf x == 0) = false := by rw [beq_eq_false_iff_ne]; omega
          have hyes : Hid ((xs.take (k + 1)).all (rightW l) = true) := by
            unfold Hid; rw [all_take_succ _ _ _ hlt, hall.out, ← HX.out]; simp [rightW]; omega
          clear hk12
          go_wp2_with fail
          refine (kind_any _ (wfu_mk hx) _).mono ?_
          rintro e w2 ⟨rfl, rfl⟩
          go_wp2_with fail
          go_round
          case rel => exact ⟨k + 1, by go_num, by omega, hyes.out⟩
          case measure => simp [intOf]; omega
      · go_wp2_with fail
        go_ret
        obtain rfl : k = xs.length := by omega
        have h := hall.out
        rw [List.take_length] at h
        exact ⟨by rw [h]; rfl, rfl⟩
end Go.Proofs.Ytfhjpgbnojdlkaa
