/- Layer 2, the document's answer: screeref02.plus, digit by digit. -/
import Derived.Test.YtapeomcnjjfihaaDoorWRefSizes
namespace Go.Proofs.YtapeomcnjjfihaaDoor
open Go.ChangeShapes Go.WideShapes Go.ChangeAt Go.RowKit
set_option linter.unusedVariables false
set_option linter.unusedSimpArgs false
theorem infoU8 : (Tryd.prog.info? 5).map (fun i => (i.zero, i.size, i.bytes)) = some (some (.int .u8 0), 1, 1) := by kernel_rfl
abbrev U8 : TypeId := 5
abbrev OB (w : World) (B : Nat) (v : Value) (ds : List Int) : Prop := OW .u8 U8 w B v ds
structure PlusState (xs ys os : List Int) (k : Nat) (c : Int) : Prop where
  len : os.length = k
  dig : Dig 10 os
  sum : val 10 os + 10 ^ k * c = val 10 (xs.take k) + val 10 (ys.take k)
theorem PlusState.start (xs ys : List Int) : PlusState xs ys [] 0 0 := ⟨rfl, Dig.nil (by decide), by simp [val]⟩
theorem PlusState.step {xs ys os : List Int} {k : Nat} {c c' d : Int} (h : PlusState xs ys os k c) (e : d + 10 * c' = c + xs.getD k 0 + ys.getD k 0) (hd : 0 ≤ d ∧ d < 10) : PlusState xs ys (os ++ [d]) (k + 1) c' := by
  refine ⟨by simp [h.len], h.dig.append (Dig.cons hd (Dig.nil (by decide))), ?_⟩
  rw [val_snoc, val_take', val_take', h.len, Int.pow_succ]
  have h1 := h.sum
  have : (10 : Int) ^ k * (d + 10 * c') = 10 ^ k * (c + xs.getD k 0 + ys.getD k 0) := by rw [e]
  grind
theorem PlusState.finish {xs ys os : List Int} {k : Nat} {c : Int} (h : PlusState xs ys os k c) (hx : xs.length ≤ k) (hy : ys.length ≤ k) (hc : 0 ≤ c ∧ c ≤ 1) : Dig 10 (os ++ [c]) ∧ val 10 (os ++ [c]) = val 10 xs + val 10 ys := by
  refine ⟨h.dig.append (Dig.cons (by omega) (Dig.nil (by decide))), ?_⟩
  rw [val_snoc, h.len, h.sum, val_full 10 hx, val_full 10 hy]
/-- A row of digits that the call made. -/
def DigPost (W : World) (z : Int) (e : Ending) (w' : World) : Prop :=
  ∃ u ds, e = .returned u ∧ Mine .u8 U8 w' W.heap.size u ds ∧ ds.length ≤ 140737488355328 ∧ Canon 10 ds ∧ val 10 ds = z ∧ Below W.heap.size W w'
set_option maxRecDepth 100000 in
set_option maxHeartbeats 2000000 in
theorem plus_any (u1 u2 : Value) (xs ys : List Int) (w : World) (h1 : Rb w u1 xs) (h2 : Rb w u2 ys) (hx : Dig 10 xs) (hy : Dig 10 ys) (hlx : xs.length ≤ 100000) (hly : ys.length ≤ 100000) :
    Calls Tryd.prog 62 #[u1, u2] w (DigPost w (val 10 xs + val 10 ys)) := by
  obtain ⟨i0, hi, hz0, hz1, hz2⟩ := info_parts infoU8
  obtain ⟨p1, c1, rfl, hc1, _, hp1⟩ := rb_form h1
  obtain ⟨p2, c2, rfl, hc2, _, hp2⟩ := rb_form h2
  have HP1 := Lib.hid hp1
  have HP2 := Lib.hid hp2
  have HX := Lib.hid hx
  have HY := Lib.hid hy
  clear h1 h2 hc1 hc2 hx hy hp1 hp2
  go_enter Tryd.func62, Tryd.ntmps62
  go_wp2
  go_loopw [5, 6, 7] (fun v cv s wr => ∃ (k : Nat) (c : Int) (os : List Int), s = .int .i64 k ∧ cv = .int .u8 c ∧ k ≤ 100000 ∧ 0 ≤ c ∧ c ≤ 1 ∧ PlusState xs ys os k c ∧ OB wr w.heap.size v os ∧ Below w.heap.size w wr) (fun _ _ s _ => 100001 - (intOf s).toNat)
  case atStart => exact ⟨0, 0, [], by go_num, rfl, by omega, by omega, by omega, PlusState.start _ _, OW.nil _ _, Below.refl _ _⟩
  case round =>
    obtain ⟨k, c, os, rfl, rfl, hk, hc0, hc1, hS, hO, hB⟩ := hrel
    have HS := Lib.hid hS
    have HO := Lib.hid hO
    have HB := Lib.hid hB
    have hol := hS.len
    have hbx := HX.out k
    have hby := HY.out k
    clear hS hO hB
    by_cases hka : k < xs.length
    · have hkaz : (k : Int) < (xs.length : Int) := by omega
      have hkab : decide ((k : Int) < (xs.length : Int)) = true := by simpa using hka
      by_cases hkb : k < ys.length
      · have hkbz : (k : Int) < (ys.length : Int) := by omega
        obtain ⟨b1, o1, rfl, hxx⟩ := HP1.out (by omega)
        have hcx := below_cell HB.out (hxx k hka)
        clear hxx
        obtain ⟨b2, o2, rfl, hyy⟩ := HP2.out (by omega)
        have hcy := below_cell HB.out (hyy k hkb)
        clear hyy
        have HN := Lib.hid (fun d c' (h : d + 10 * c' = c + xs.getD k 0 + ys.getD k 0) (hd : 0 ≤ d ∧ d < 10) => HS.out.step h hd)
        generalize xs.getD k 0 = x at hcx hbx HN
        generalize ys.getD k 0 = y at hcy hby HN
        go_wp2_with (at_builtin; refine wpList_append_own _ rfl _ _ 30 rfl w.heap.size 5 i0 (.int .u8 0) 1 1 Tryd.underlying30 hi hz0 hz1 hz2 rfl (by decide) _ _ _ rfl (World.ownsRow.alloc HO.out _) ⟨wr.heap.size, 0, none⟩ 1 1 [.int .u8 ((c + x + y) % 10)] rfl rfl (one_newO _ _ _) (by simp [Value.oneCell']) (by unfold maxLen; omega) (by omega) (by have := HB.out.size; simp; omega) ?_; intro v' w4 hown' hgrow _)
        have HOn := Lib.hid (OW.snoc hown')
        have HBn := Lib.hid (HO.out.grown HB.out hgrow (Nat.le_refl _))
        clear hown' hgrow
        go_wp2
        go_roundw
        case rel => exact ⟨k + 1, (c + x + y) / 10, os ++ [(c + x + y) % 10], by go_num, rfl, by omega, by omega, by omega, HN.out _ _ (by omega) (by omega), HOn.out, HBn.out⟩
        case measure => simp [intOf]; omega
      · have hkbz : ¬ (k : Int) < (ys.length : Int) := by omega
        obtain ⟨b1, o1, rfl, hxx⟩ := HP1.out (by omega)
        have hcx := below_cell HB.out (hxx k hka)
        clear hxx
        have HN := Lib.hid (fun d c' (h : d + 10 * c' = c + xs.getD k 0 + ys.getD k 0) (hd : 0 ≤ d ∧ d < 10) => HS.out.step h hd)
        rw [getD_len (show ys.length ≤ k by omega)] at HN
        generalize xs.getD k 0 = x at hcx hbx HN
        clear hby
        go_wp2_with (at_builtin; refine wpList_append_own _ rfl _ _ 30 rfl w.heap.size 5 i0 (.int .u8 0) 1 1 Tryd.underlying30 hi hz0 hz1 hz2 rfl (by decide) _ _ _ rfl (World.ownsRow.alloc HO.out _) ⟨wr.heap.size, 0, none⟩ 1 1 [.int .u8 ((c + x) % 10)] rfl rfl (one_newO _ _ _) (by simp [Value.oneCell']) (by unfold maxLen; omega) (by omega) (by have := HB.out.size; simp; omega) ?_; intro v' w4 hown' hgrow _)
        have HOn := Lib.hid (OW.snoc hown')
        have HBn := Lib.hid (HO.out.grown HB.out hgrow (Nat.le_refl _))
        clear hown' hgrow
        go_wp2
        go_roundw
        case rel => exact ⟨k + 1, (c + x) / 10, os ++ [(c + x) % 10], by go_num, rfl, by omega, by omega, by omega, HN.out _ _ (by omega) (by omega), HOn.out, HBn.out⟩
        case measure => simp [intOf]; omega
    · have hkaz : ¬ (k : Int) < (xs.length : Int) := by omega
      have hkab : decide ((k : Int) < (xs.length : Int)) = false := by simpa using hka
      by_cases hkb : k < ys.length
      · have hkbz : (k : Int) < (ys.length : Int) := by omega
        obtain ⟨b2, o2, rfl, hyy⟩ := HP2.out (by omega)
        have hcy := below_cell HB.out (hyy k hkb)
        clear hyy
        have HN := Lib.hid (fun d c' (h : d + 10 * c' = c + xs.getD k 0 + ys.getD k 0) (hd : 0 ≤ d ∧ d < 10) => HS.out.step h hd)
        rw [getD_len (show xs.length ≤ k by omega)] at HN
        clear hbx
        generalize ys.getD k 0 = y at hcy hby HN
        go_wp2_with (at_builtin; refine wpList_append_own _ rfl _ _ 30 rfl w.heap.size 5 i0 (.int .u8 0) 1 1 Tryd.underlying30 hi hz0 hz1 hz2 rfl (by decide) _ _ _ rfl (World.ownsRow.alloc HO.out _) ⟨wr.heap.size, 0, none⟩ 1 1 [.int .u8 ((c + y) % 10)] rfl rfl (one_newO _ _ _) (by simp [Value.oneCell']) (by unfold maxLen; omega) (by omega) (by have := HB.out.size; simp; omega) ?_; intro v' w4 hown' hgrow _)
        have HOn := Lib.hid (OW.snoc hown')
        have HBn := Lib.hid (HO.out.grown HB.out hgrow (Nat.le_refl _))
        clear hown' hgrow
        go_wp2
        go_roundw
        case rel => exact ⟨k + 1, (c + y) / 10, os ++ [(c + y) % 10], by go_num, rfl, by omega, by omega, by omega, HN.out _ _ (by omega) (by omega), HOn.out, HBn.out⟩
        case measure => simp [intOf]; omega
      · have hkbz : ¬ (k : Int) < (ys.length : Int) := by omega
        have hkbb : decide ((k : Int) < (ys.length : Int)) = false := by simpa using hkb
        have HE := Lib.hid (HS.out.finish (by omega) (by omega) ⟨hc0, hc1⟩)
        clear hbx hby
        go_wp2_with (at_builtin; refine wpList_append_own _ rfl _ _ 30 rfl w.heap.size 5 i0 (.int .u8 0) 1 1 Tryd.underlying30 hi hz0 hz1 hz2 rfl (by decide) _ _ _ rfl (World.ownsRow.alloc HO.out _) ⟨wr.heap.size, 0, none⟩ 1 1 [.int .u8 c] rfl rfl (one_newO _ _ _) (by simp [Value.oneCell']) (by unfold maxLen; omega) (by omega) (by have := HB.out.size; simp; omega) ?_; intro v' w4 hown' hgrow _)
        have HOn := Lib.hid (OW.snoc hown')
        have HBn := Lib.hid (HO.out.grown HB.out hgrow (Nat.le_refl _))
        clear hown' hgrow
        have hrb := HOn.out.rb (show (os ++ [c]).length ≤ _ by rw [List.length_append, hol, List.length_singleton]; omega)
        obtain ⟨p, cc, rfl, _, _, _⟩ := rb_form hrb
        have HRB := Lib.hid hrb
        clear hrb
        go_wp2_with fail
        refine (cut_any _ _ _ _ HRB.out).mono ?_
        rintro e w5 ⟨kk, hkk, rfl, rfl⟩
        have HKK := Lib.hid hkk
        clear hkk
        go_wp2
        go_ret
        have hcut := HKK.out.canon (b := 10) (by decide) HE.out.1
        exact ⟨_, _, rfl, HOn.out.mine.cut HKK.out.1, by rw [hcut.2.2]; have := HKK.out.1; rw [List.length_append, hol, List.length_singleton] at this; omega, hcut.1, by rw [hcut.2.1, HE.out.2], HBn.out⟩
end Go.Proofs.YtapeomcnjjfihaaDoor
