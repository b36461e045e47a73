/- Layer 2, the document's answer: screeref02.minus, digit by digit. -/
import Derived.Test.YtapeomcnjjfihaaDoorWRefPlus
namespace Go.Proofs.YtapeomcnjjfihaaDoor
open Go.ChangeShapes Go.WideShapes Go.ChangeAt Go.RowKit
set_option linter.unusedVariables false
set_option linter.unusedSimpArgs false
structure MinusState (xs ys os : List Int) (k : Nat) (c : Int) : Prop where
  len : os.length = k
  dig : Dig 10 os
  diff : val 10 os - 10 ^ k * c = val 10 (xs.take k) - val 10 (ys.take k)
theorem MinusState.start (xs ys : List Int) : MinusState xs ys [] 0 0 := ⟨rfl, Dig.nil (by decide), by simp [val]⟩
theorem MinusState.step {xs ys os : List Int} {k : Nat} {c c' d : Int} (h : MinusState xs ys os k c) (e : d - 10 * c' = xs.getD k 0 - ys.getD k 0 - c) (hd : 0 ≤ d ∧ d < 10) : MinusState xs ys (os ++ [d]) (k + 1) c' := by
  refine ⟨by simp [h.len], h.dig.append (Dig.cons hd (Dig.nil (by decide))), ?_⟩
  rw [val_snoc, val_take', val_take', h.len, Int.pow_succ]
  have h1 := h.diff
  have : (10 : Int) ^ k * (d - 10 * c') = 10 ^ k * (xs.getD k 0 - ys.getD k 0 - c) := by rw [e]
  grind
theorem MinusState.finish {xs ys os : List Int} {k : Nat} {c : Int} (h : MinusState xs ys os k c) (hx : xs.length ≤ k) (hy : ys.length ≤ k) (hge : val 10 ys ≤ val 10 xs) (hc : 0 ≤ c ∧ c ≤ 1) : val 10 os = val 10 xs - val 10 ys := by
  have h1 := h.diff
  rw [val_full 10 hx, val_full 10 hy] at h1
  have h2 := val_lt (by decide : (0 : Int) < 10) h.dig
  rw [h.len] at h2
  by_cases e : c = 0
  · subst e; simpa using h1
  · obtain rfl : c = 1 := by omega
    omega
set_option maxRecDepth 100000 in
set_option maxHeartbeats 2000000 in
theorem minus_any (u1 u2 : Value) (xs ys : List Int) (w : World) (h1 : Rb w u1 xs) (h2 : Rb w u2 ys) (hx : Dig 10 xs) (hy : Dig 10 ys) (hlx : xs.length ≤ 100000) (hle : ys.length ≤ xs.length) (hge : val 10 ys ≤ val 10 xs) :
    Calls Tryd.prog 64 #[u1, u2] w (DigPost w (val 10 xs - val 10 ys)) := by
  obtain ⟨i0, hi, hz0, hz1, hz2⟩ := info_parts infoU8
  obtain ⟨p1, c1, rfl, hc1, _, hp1⟩ := rb_form h1
  obtain ⟨p2, c2, rfl, hc2, _, hp2⟩ := rb_form h2
  have HP1 := Lib.hid hp1
  have HP2 := Lib.hid hp2
  have HX := Lib.hid hx
  have HY := Lib.hid hy
  have HGE := Lib.hid hge
  clear h1 h2 hc1 hc2 hx hy hp1 hp2 hge
  go_enter Tryd.func64, Tryd.ntmps64
  go_wp2
  go_loopw [5, 6, 7] (fun v cv s wr => ∃ (k : Nat) (c : Int) (os : List Int), s = .int .i64 k ∧ cv = .int .u8 c ∧ k ≤ xs.length ∧ 0 ≤ c ∧ c ≤ 1 ∧ MinusState xs ys os k c ∧ OB wr w.heap.size v os ∧ Below w.heap.size w wr) (fun _ _ s _ => 100001 - (intOf s).toNat)
  case atStart => exact ⟨0, 0, [], by go_num, rfl, by omega, by omega, by omega, MinusState.start _ _, OW.nil _ _, Below.refl _ _⟩
  case round =>
    obtain ⟨k, c, os, rfl, rfl, hk, hc0, hc1, hS, hO, hB⟩ := hrel
    have HS := Lib.hid hS
    have HO := Lib.hid hO
    have HB := Lib.hid hB
    have hol := hS.len
    have hbx := HX.out k
    have hby := HY.out k
    clear hS hO hB
    by_cases hka : k < xs.length
    · have hkaz : (k : Int) < (xs.length : Int) := by omega
      by_cases hkb : k < ys.length
      · have hkbz : (k : Int) < (ys.length : Int) := by omega
        obtain ⟨b1, o1, rfl, hxx⟩ := HP1.out (by omega)
        have hcx := below_cell HB.out (hxx k hka)
        clear hxx
        obtain ⟨b2, o2, rfl, hyy⟩ := HP2.out (by omega)
        have hcy := below_cell HB.out (hyy k hkb)
        clear hyy
        have HN := Lib.hid (fun d c' (h : d - 10 * c' = xs.getD k 0 - ys.getD k 0 - c) (hd : 0 ≤ d ∧ d < 10) => HS.out.step h hd)
        generalize xs.getD k 0 = x at hcx hbx HN
        generalize ys.getD k 0 = y at hcy hby HN
        go_wp2_with (at_builtin; refine wpList_append_own _ rfl _ _ 30 rfl w.heap.size 5 i0 (.int .u8 0) 1 1 Tryd.underlying30 hi hz0 hz1 hz2 rfl (by decide) _ _ _ rfl (World.ownsRow.alloc HO.out _) ⟨wr.heap.size, 0, none⟩ 1 1 [.int .u8 ((x + 10 - c - y) % 10)] rfl rfl (one_newO _ _ _) (by simp [Value.oneCell']) (by unfold maxLen; omega) (by omega) (by have := HB.out.size; simp; omega) ?_; intro v' w4 hown' hgrow _)
        have HOn := Lib.hid (OW.snoc hown')
        have HBn := Lib.hid (HO.out.grown HB.out hgrow (Nat.le_refl _))
        clear hown' hgrow
        go_wp2
        go_roundw
        case rel => exact ⟨k + 1, 1 - (x + 10 - c - y) / 10, os ++ [(x + 10 - c - y) % 10], by go_num, rfl, by omega, by omega, by omega, HN.out _ _ (by omega) (by omega), HOn.out, HBn.out⟩
        case measure => simp [intOf]; omega
      · have hkbz : ¬ (k : Int) < (ys.length : Int) := by omega
        obtain ⟨b1, o1, rfl, hxx⟩ := HP1.out (by omega)
        have hcx := below_cell HB.out (hxx k hka)
        clear hxx
        have HN := Lib.hid (fun d c' (h : d - 10 * c' = xs.getD k 0 - ys.getD k 0 - c) (hd : 0 ≤ d ∧ d < 10) => HS.out.step h hd)
        rw [getD_len (show ys.length ≤ k by omega)] at HN
        generalize xs.getD k 0 = x at hcx hbx HN
        clear hby
        go_wp2_with (at_builtin; refine wpList_append_own _ rfl _ _ 30 rfl w.heap.size 5 i0 (.int .u8 0) 1 1 Tryd.underlying30 hi hz0 hz1 hz2 rfl (by decide) _ _ _ rfl (World.ownsRow.alloc HO.out _) ⟨wr.heap.size, 0, none⟩ 1 1 [.int .u8 ((x + 10 - c) % 10)] rfl rfl (one_newO _ _ _) (by simp [Value.oneCell']) (by unfold maxLen; omega) (by omega) (by have := HB.out.size; simp; omega) ?_; intro v' w4 hown' hgrow _)
        have HOn := Lib.hid (OW.snoc hown')
        have HBn := Lib.hid (HO.out.grown HB.out hgrow (Nat.le_refl _))
        clear hown' hgrow
        go_wp2
        go_roundw
        case rel => exact ⟨k + 1, 1 - (x + 10 - c) / 10, os ++ [(x + 10 - c) % 10], by go_num, rfl, by omega, by omega, by omega, HN.out _ _ (by omega) (by omega), HOn.out, HBn.out⟩
        case measure => simp [intOf]; omega
    · have hkaz : ¬ (k : Int) < (xs.length : Int) := by omega
      have HE := Lib.hid (HS.out.finish (by omega) (by omega) HGE.out ⟨hc0, hc1⟩)
      clear hbx hby
      have hrb := HO.out.rb (by omega)
      obtain ⟨p, cc, rfl, _, _, _⟩ := rb_form hrb
      have HRB := Lib.hid hrb
      clear hrb
      go_wp2_with fail
      rw [← hol]
      refine (cut_any _ _ _ _ HRB.out).mono ?_
      rintro e w5 ⟨kk, hkk, rfl, rfl⟩
      have HKK := Lib.hid hkk
      clear hkk
      go_wp2
      go_ret
      have hcut := HKK.out.canon (b := 10) (by decide) HS.out.dig
      exact ⟨_, _, rfl, HO.out.mine.cut HKK.out.1, by rw [hcut.2.2]; have := HKK.out.1; omega, hcut.1, by rw [hcut.2.1, HE.out], HB.out⟩
end Go.Proofs.YtapeomcnjjfihaaDoor
