/- Layer 2, the document's answer: screeref02.sizes and cut, over rows of decimal digits. -/
import Derived.Test.YtlhfemgimieooaaGreatDoorPGWa
set_option linter.unusedVariables false
set_option linter.unusedSimpArgs false
set_option maxRecDepth 100000
set_option maxHeartbeats 2000000
namespace Go.Proofs.YtlhfemgimieooaaGreatDoor
open Go.Lib (hid)
open Go.ChangeShapes Go.WideShapes Go.ChangeAt Go.RowKit
section
def CutPost (W : World) (p : Option Addr) (c : Nat) (ds : List Int) (e : Ending) (w' : World) : Prop := ∃ k, CutAt ds k ∧ e = .returned (.slice p k c) ∧ W = w'
theorem cut_any (p : Option Addr) (c : Nat) (ds : List Int) (w : World) (hr : Rb w (.slice p ds.length c) ds) :
   Calls Tryz.prog 83 #[.slice p ds.length c] w (CutPost w p c ds) := by
 obtain ⟨p', c', e0, hc, hm, hp⟩ := rb_form hr
 simp only [Value.slice.injEq, true_and] at e0
 obtain ⟨rfl, rfl⟩ := e0
 have HP := hid hp
 clear hp hr
 go_enter Tryz.func83, Tryz.ntmps83
 go_wp2
 go_loop [3] (fun s => ∃ k : Nat, s = .int .i64 k ∧ k ≤ ds.length ∧ ∀ j, k ≤ j → ds.getD j 0 = 0) (fun s => (intOf s).toNat)
 case atStart => exact ⟨ds.length, by go_num, Nat.le_refl _, fun j hj => getD_len hj⟩
 case round =>
   obtain ⟨k, rfl, hk, hall⟩ := hrel
   have HA := hid hall
   clear hall
   by_cases hk0 : k = 0
   · subst hk0
     have HK := hid (show CutAt ds 0 from ⟨hk, HA.out, fun h => absurd h (by omega)⟩)
     go_wp2
     go_ret
     exact ⟨0, HK.out, rfl, rfl⟩
   · obtain ⟨b, off, rfl, hx⟩ := HP.out (by omega)
     have e1 := hx (k - 1) (by omega)
     clear hx
     have hk1 : 1 ≤ k := by omega
     by_cases hz : ds.getD (k - 1) 0 = 0
     · have HZ := hid hz
       rw [hz] at e1
       clear hz hk0
       go_wp2
       go_round
       case rel => exact ⟨k - 1, by go_num, by omega, fun j hj => by
         by_cases e : j = k - 1
         · subst e; exact HZ.out
         · exact HA.out j (by omega)⟩
       case measure => simp [intOf]; omega
     · have HK := hid (show CutAt ds k from ⟨hk, HA.out, fun _ => hz⟩)
       have hz2 : (ds.getD (k - 1) 0 == 0) = false := by simpa using hz
       generalize ds.getD (k - 1) 0 = x at e1 hz2
       clear hz hk0
       go_wp2
       go_ret
       exact ⟨k, HK.out, rfl, rfl⟩
theorem sizes_any (u1 u2 : Value) (xs ys : List Int) (w : World) (h1 : Rb w u1 xs) (h2 : Rb w u2 ys) (hx : Canon 10 xs) (hy : Canon 10 ys) :
   Calls Tryz.prog 156 #[u1, u2] w (CmpPost w (cmpI (val 10 xs) (val 10 ys))) := by
 obtain ⟨p1, c1, rfl, hc1, hm1, hp1⟩ := rb_form h1
 obtain ⟨p2, c2, rfl, hc2, hm2, hp2⟩ := rb_form h2
 have HX := hid hx
 have HY := hid hy
 clear h1 h2 hc1 hc2 hx hy
 by_cases hl : xs.length = ys.length
 · have HL := hid hl
   rw [← hl] at hp2 hm2 ⊢
   have HP1 := hid hp1
   have HP2 := hid hp2
   clear hp1 hp2 hl hm2
   go_enter Tryz.func156, Tryz.ntmps156
   go_wp2
   go_loopw [5] (fun s wr => ∃ k q : Nat, s = .int .i64 ((k : Int) - 1) ∧ k ≤ xs.length ∧ wr = w.drewN q ∧ ∀ j, k ≤ j → xs.getD j 0 = ys.getD j 0) (fun s _ => ((intOf s) + 1).toNat)
   case atStart => exact ⟨xs.length, 0, rfl, Nat.le_refl _, rfl, fun j hj => by rw [getD_len (by omega), getD_len (by have := HL.out; omega)]⟩
   case round =>
     obtain ⟨k, q, rfl, hk, rfl, hall⟩ := hrel
     have HA := hid hall
     clear hall
     by_cases hlt : 0 < k
     · obtain ⟨b1, o1, rfl, hx⟩ := HP1.out (by omega)
       obtain ⟨b2, o2, rfl, hy⟩ := HP2.out (by omega)
       obtain ⟨d, rfl⟩ : ∃ d, k = d + 1 := ⟨k - 1, by omega⟩
       have e1 := hx d (by omega)
       have e2 := hy d (by omega)
       have hd1 : ((d + 1 : Nat) : Int) - 1 = (d : Int) := by omega
       have hdl : (d : Int) < (xs.length : Int) := by omega
       rw [hd1]
       clear hx hy hd1
       rcases Int.lt_trichotomy (xs.getD d 0) (ys.getD d 0) with h | h | h
       · have HG := hid (cmpI_lt (cmp_lt (b := 10) (by decide) HX.out.1 HY.out.1 HL.out d (by omega) (fun j hj => HA.out j (by omega)) h))
         generalize xs.getD d 0 = x at e1 h
         generalize ys.getD d 0 = y at e2 h
         go_wp2
         go_quiet (fail)
         go_wp2
         go_ret
         exact CmpPost.mk HG.out.symm (by repeat (first | exact Below.refl _ _ | refine below_drewN ?_ _))
       · have HE := hid h
         rw [h] at e1
         generalize ys.getD d 0 = y at e1 e2
         clear h
         go_wp2
         go_quiet (fail)
         go_wp2
         go_quiet (fail)
         go_wp2
         go_roundw
         case rel => exact ⟨d, _, rfl, by omega, rfl, fun j hj => by
           by_cases e : j = d
           · subst e; exact HE.out
           · exact HA.out j (by omega)⟩
         case measure => simp [intOf]
       · have HG := hid (cmpI_gt (cmp_lt (b := 10) (by decide) HY.out.1 HX.out.1 HL.out.symm d (by have := HL.out; omega) (fun j hj => (HA.out j (by omega)).symm) h))
         have h' : ¬ xs.getD d 0 < ys.getD d 0 := by omega
         generalize xs.getD d 0 = x at e1 h h'
         generalize ys.getD d 0 = y at e2 h h'
         go_wp2
         go_quiet (fail)
         go_wp2
         go_quiet (fail)
         go_wp2
         go_ret
         exact CmpPost.mk HG.out.symm (by repeat (first | exact Below.refl _ _ | refine below_drewN ?_ _))
     · obtain rfl : k = 0 := by omega
       have HG := hid (cmpI_eq (congrArg (val 10) (list_ext_all (xs := xs) (ys := ys) HL.out (fun i => HA.out i (by omega)))))
       go_wp2
       go_ret
       exact CmpPost.mk HG.out.symm (by repeat (first | exact Below.refl _ _ | refine below_drewN ?_ _))
 · by_cases hlt : xs.length < ys.length
   · have HG := hid (cmpI_lt (len_lt (b := 10) (by decide) HX.out HY.out hlt))
     have hltz : (xs.length : Int) < (ys.length : Int) := by omega
     clear hl
     go_enter Tryz.func156, Tryz.ntmps156
     go_wp2
     go_ret
     exact CmpPost.mk HG.out.symm (Below.refl _ _)
   · have HG := hid (cmpI_gt (len_lt (b := 10) (by decide) HY.out HX.out (by omega)))
     have hltz : ¬ (xs.length : Int) < (ys.length : Int) := by omega
     have hgtz : (ys.length : Int) < (xs.length : Int) := by omega
     clear hl
     go_enter Tryz.func156, Tryz.ntmps156
     go_wp2
     go_ret
     exact CmpPost.mk HG.out.symm (Below.refl _ _)
end
section
theorem infoU8 : (Tryz.prog.info? 5).map (fun i => (i.zero, i.size, i.bytes)) = some (some (.int .u8 0), 1, 1) := by kernel_rfl
abbrev U8 : TypeId := 5
abbrev OB (w : World) (B : Nat) (v : Value) (ds : List Int) : Prop := OW .u8 U8 w B v ds
structure PlusState (xs ys os : List Int) (k : Nat) (c : Int) : Prop where
 len : os.length = k
 dig : Dig 10 os
 sum : val 10 os + 10 ^ k * c = val 10 (xs.take k) + val 10 (ys.take k)
theorem PlusState.start (xs ys : List Int) : PlusState xs ys [] 0 0 := ⟨rfl, Dig.nil (by decide), by simp [val]⟩
theorem PlusState.step {xs ys os : List Int} {k : Nat} {c c' d : Int} (h : PlusState xs ys os k c) (e : d + 10 * c' = c + xs.getD k 0 + ys.getD k 0) (hd : 0 ≤ d ∧ d < 10) : PlusState xs ys (os ++ [d]) (k + 1) c' := by
 refine ⟨by simp [h.len], h.dig.append (Dig.cons hd (Dig.nil (by decide))), ?_⟩
 rw [val_snoc, val_take', val_take', h.len, Int.pow_succ]
 have h1 := h.sum
 have : (10 : Int) ^ k * (d + 10 * c') = 10 ^ k * (c + xs.getD k 0 + ys.getD k 0) := by rw [e]
 grind
theorem PlusState.finish {xs ys os : List Int} {k : Nat} {c : Int} (h : PlusState xs ys os k c) (hx : xs.length ≤ k) (hy : ys.length ≤ k) (hc : 0 ≤ c ∧ c ≤ 1) : Dig 10 (os ++ [c]) ∧ val 10 (os ++ [c]) = val 10 xs + val 10 ys := by
 refine ⟨h.dig.append (Dig.cons (by omega) (Dig.nil (by decide))), ?_⟩
 rw [val_snoc, h.len, h.sum, val_full 10 hx, val_full 10 hy]
def DigPost (W : World) (z : Int) (e : Ending) (w' : World) : Prop :=
 ∃ u ds, e = .returned u ∧ Mine .u8 U8 w' W.heap.size u ds ∧ ds.length ≤ 140737488355328 ∧ Canon 10 ds ∧ val 10 ds = z ∧ Below W.heap.size W w'
theorem plus_any (u1 u2 : Value) (xs ys : List Int) (w : World) (h1 : Rb w u1 xs) (h2 : Rb w u2 ys) (hx : Dig 10 xs) (hy : Dig 10 ys) (hlx : xs.length ≤ 100000) (hly : ys.length ≤ 100000) :
   Calls Tryz.prog 155 #[u1, u2] w (DigPost w (val 10 xs + val 10 ys)) := by
 obtain ⟨i0, hi, hz0, hz1, hz2⟩ := info_parts infoU8
 obtain ⟨p1, c1, rfl, hc1, _, hp1⟩ := rb_form h1
 obtain ⟨p2, c2, rfl, hc2, _, hp2⟩ := rb_form h2
 have HP1 := hid hp1
 have HP2 := hid hp2
 have HX := hid hx
 have HY := hid hy
 clear h1 h2 hc1 hc2 hx hy hp1 hp2
 go_enter Tryz.func155, Tryz.ntmps155
 go_wp2
 go_loopw [5, 6, 7] (fun v cv s wr => ∃ (k : Nat) (c : Int) (os : List Int), s = .int .i64 k ∧ cv = .int .u8 c ∧ k ≤ 100000 ∧ 0 ≤ c ∧ c ≤ 1 ∧ PlusState xs ys os k c ∧ OB wr w.heap.size v os ∧ Below w.heap.size w wr) (fun _ _ s _ => 100001 - (intOf s).toNat)
 case atStart => exact ⟨0, 0, [], by go_num, rfl, by omega, by omega, by omega, PlusState.start _ _, OW.nil _ _, Below.refl _ _⟩
 case round =>
   obtain ⟨k, c, os, rfl, rfl, hk, hc0, hc1, hS, hO, hB⟩ := hrel
   have HS := hid hS
   have HO := hid hO
   have HB := hid hB
   have hol := hS.len
   have hbx := HX.out k
   have hby := HY.out k
   clear hS hO hB
   by_cases hka : k < xs.length
   · have hkaz : (k : Int) < (xs.length : Int) := by omega
     have hkab : decide ((k : Int) < (xs.length : Int)) = true := by simpa using hka
     by_cases hkb : k < ys.length
     · have hkbz : (k : Int) < (ys.length : Int) := by omega
       obtain ⟨b1, o1, rfl, hxx⟩ := HP1.out (by omega)
       have hcx := bcl HB.out (hxx k hka)
       clear hxx
       obtain ⟨b2, o2, rfl, hyy⟩ := HP2.out (by omega)
       have hcy := bcl HB.out (hyy k hkb)
       clear hyy
       have HN := hid (fun d c' (h : d + 10 * c' = c + xs.getD k 0 + ys.getD k 0) (hd : 0 ≤ d ∧ d < 10) => HS.out.step h hd)
       generalize xs.getD k 0 = x at hcx hbx HN
       generalize ys.getD k 0 = y at hcy hby HN
       go_wp2_with (at_builtin; refine wpList_append_own _ rfl _ _ 43 rfl w.heap.size 5 i0 (.int .u8 0) 1 1 Tryz.underlying43 hi hz0 hz1 hz2 rfl (by decide) _ _ _ rfl (World.ownsRow.alloc HO.out _) ⟨wr.heap.size, 0, none⟩ 1 1 [.int .u8 ((c + x + y) % 10)] rfl rfl (one_newO _ _ _) (by simp [Value.oneCell']) (by unfold maxLen; omega) (by omega) (by have := HB.out.size; simp; omega) ?_; intro v' w4 hown' hgrow _)
       have HOn := hid (OW.snoc hown')
       have HBn := hid (HO.out.grown HB.out hgrow (Nat.le_refl _))
       clear hown' hgrow
       go_wp2
       go_roundw
       case rel => exact ⟨k + 1, (c + x + y) / 10, os ++ [(c + x + y) % 10], by go_num, rfl, by omega, by omega, by omega, HN.out _ _ (by omega) (by omega), HOn.out, HBn.out⟩
       case measure => simp [intOf]; omega
     · have hkbz : ¬ (k : Int) < (ys.length : Int) := by omega
       obtain ⟨b1, o1, rfl, hxx⟩ := HP1.out (by omega)
       have hcx := bcl HB.out (hxx k hka)
       clear hxx
       have HN := hid (fun d c' (h : d + 10 * c' = c + xs.getD k 0 + ys.getD k 0) (hd : 0 ≤ d ∧ d < 10) => HS.out.step h hd)
       rw [getD_len (show ys.length ≤ k by omega)] at HN
       generalize xs.getD k 0 = x at hcx hbx HN
       clear hby
       go_wp2_with (at_builtin; refine wpList_append_own _ rfl _ _ 43 rfl w.heap.size 5 i0 (.int .u8 0) 1 1 Tryz.underlying43 hi hz0 hz1 hz2 rfl (by decide) _ _ _ rfl (World.ownsRow.alloc HO.out _) ⟨wr.heap.size, 0, none⟩ 1 1 [.int .u8 ((c + x) % 10)] rfl rfl (one_newO _ _ _) (by simp [Value.oneCell']) (by unfold maxLen; omega) (by omega) (by have := HB.out.size; simp; omega) ?_; intro v' w4 hown' hgrow _)
       have HOn := hid (OW.snoc hown')
       have HBn := hid (HO.out.grown HB.out hgrow (Nat.le_refl _))
       clear hown' hgrow
       go_wp2
       go_roundw
       case rel => exact ⟨k + 1, (c + x) / 10, os ++ [(c + x) % 10], by go_num, rfl, by omega, by omega, by omega, HN.out _ _ (by omega) (by omega), HOn.out, HBn.out⟩
       case measure => simp [intOf]; omega
   · have hkaz : ¬ (k : Int) < (xs.length : Int) := by omega
     have hkab : decide ((k : Int) < (xs.length : Int)) = false := by simpa using hka
     by_cases hkb : k < ys.length
     · have hkbz : (k : Int) < (ys.length : Int) := by omega
       obtain ⟨b2, o2, rfl, hyy⟩ := HP2.out (by omega)
       have hcy := bcl HB.out (hyy k hkb)
       clear hyy
       have HN := hid (fun d c' (h : d + 10 * c' = c + xs.getD k 0 + ys.getD k 0) (hd : 0 ≤ d ∧ d < 10) => HS.out.step h hd)
       rw [getD_len (show xs.length ≤ k by omega)] at HN
       clear hbx
       generalize ys.getD k 0 = y at hcy hby HN
       go_wp2_with (at_builtin; refine wpList_append_own _ rfl _ _ 43 rfl w.heap.size 5 i0 (.int .u8 0) 1 1 Tryz.underlying43 hi hz0 hz1 hz2 rfl (by decide) _ _ _ rfl (World.ownsRow.alloc HO.out _) ⟨wr.heap.size, 0, none⟩ 1 1 [.int .u8 ((c + y) % 10)] rfl rfl (one_newO _ _ _) (by simp [Value.oneCell']) (by unfold maxLen; omega) (by omega) (by have := HB.out.size; simp; omega) ?_; intro v' w4 hown' hgrow _)
       have HOn := hid (OW.snoc hown')
       have HBn := hid (HO.out.grown HB.out hgrow (Nat.le_refl _))
       clear hown' hgrow
       go_wp2
       go_roundw
       case rel => exact ⟨k + 1, (c + y) / 10, os ++ [(c + y) % 10], by go_num, rfl, by omega, by omega, by omega, HN.out _ _ (by omega) (by omega), HOn.out, HBn.out⟩
       case measure => simp [intOf]; omega
     · have hkbz : ¬ (k : Int) < (ys.length : Int) := by omega
       have hkbb : decide ((k : Int) < (ys.length : Int)) = false := by simpa using hkb
       have HE := hid (HS.out.finish (by omega) (by omega) ⟨hc0, hc1⟩)
       clear hbx hby
       go_wp2_with (at_builtin; refine wpList_append_own _ rfl _ _ 43 rfl w.heap.size 5 i0 (.int .u8 0) 1 1 Tryz.underlying43 hi hz0 hz1 hz2 rfl (by decide) _ _ _ rfl (World.ownsRow.alloc HO.out _) ⟨wr.heap.size, 0, none⟩ 1 1 [.int .u8 c] rfl rfl (one_newO _ _ _) (by simp [Value.oneCell']) (by unfold maxLen; omega) (by omega) (by have := HB.out.size; simp; omega) ?_; intro v' w4 hown' hgrow _)
       have HOn := hid (OW.snoc hown')
       have HBn := hid (HO.out.grown HB.out hgrow (Nat.le_refl _))
       clear hown' hgrow
       have hrb := HOn.out.rb (show (os ++ [c]).length ≤ _ by rw [List.length_append, hol, List.length_singleton]; omega)
       obtain ⟨p, cc, rfl, _, _, _⟩ := rb_form hrb
       have HRB := hid hrb
       clear hrb
       go_wp2_with fail
       refine (cut_any _ _ _ _ HRB.out).mono ?_
       rintro e w5 ⟨kk, hkk, rfl, rfl⟩
       have HKK := hid hkk
       clear hkk
       go_wp2
       go_ret
       have hcut := HKK.out.canon (b := 10) (by decide) HE.out.1
       exact ⟨_, _, rfl, HOn.out.mine.cut HKK.out.1, by rw [hcut.2.2]; have := HKK.out.1; rw [List.length_append, hol, List.length_singleton] at this; omega, hcut.1, by rw [hcut.2.1, HE.out.2], HBn.out⟩
end
section
structure MinusState (xs ys os : List Int) (k : Nat) (c : Int) : Prop where
 len : os.length = k
 dig : Dig 10 os
 diff : val 10 os - 10 ^ k * c = val 10 (xs.take k) - val 10 (ys.take k)
theorem MinusState.start (xs ys : List Int) : MinusState xs ys [] 0 0 := ⟨rfl, Dig.nil (by decide), by simp [val]⟩
theorem MinusState.step {xs ys os : List Int} {k : Nat} {c c' d : Int} (h : MinusState xs ys os k c) (e : d - 10 * c' = xs.getD k 0 - ys.getD k 0 - c) (hd : 0 ≤ d ∧ d < 10) : MinusState xs ys (os ++ [d]) (k + 1) c' := by
 refine ⟨by simp [h.len], h.dig.append (Dig.cons hd (Dig.nil (by decide))), ?_⟩
 rw [val_snoc, val_take', val_take', h.len, Int.pow_succ]
 have h1 := h.diff
 have : (10 : Int) ^ k * (d - 10 * c') = 10 ^ k * (xs.getD k 0 - ys.getD k 0 - c) := by rw [e]
 grind
theorem MinusState.finish {xs ys os : List Int} {k : Nat} {c : Int} (h : MinusState xs ys os k c) (hx : xs.length ≤ k) (hy : ys.length ≤ k) (hge : val 10 ys ≤ val 10 xs) (hc : 0 ≤ c ∧ c ≤ 1) : val 10 os = val 10 xs - val 10 ys := by
 have h1 := h.diff
 rw [val_full 10 hx, val_full 10 hy] at h1
 have h2 := val_lt (by decide : (0 : Int) < 10) h.dig
 rw [h.len] at h2
 by_cases e : c = 0
 · subst e; simpa using h1
 · obtain rfl : c = 1 := by omega
   omega
theorem minus_any (u1 u2 : Value) (xs ys : List Int) (w : World) (h1 : Rb w u1 xs) (h2 : Rb w u2 ys) (hx : Dig 10 xs) (hy : Dig 10 ys) (hlx : xs.length ≤ 100000) (hle : ys.length ≤ xs.length) (hge : val 10 ys ≤ val 10 xs) :
   Calls Tryz.prog 157 #[u1, u2] w (DigPost w (val 10 xs - val 10 ys)) := by
 obtain ⟨i0, hi, hz0, hz1, hz2⟩ := info_parts infoU8
 obtain ⟨p1, c1, rfl, hc1, _, hp1⟩ := rb_form h1
 obtain ⟨p2, c2, rfl, hc2, _, hp2⟩ := rb_form h2
 have HP1 := hid hp1
 have HP2 := hid hp2
 have HX := hid hx
 have HY := hid hy
 have HGE := hid hge
 clear h1 h2 hc1 hc2 hx hy hp1 hp2 hge
 go_enter Tryz.func157, Tryz.ntmps157
 go_wp2
 go_loopw [5, 6, 7] (fun v cv s wr => ∃ (k : Nat) (c : Int) (os : List Int), s = .int .i64 k ∧ cv = .int .u8 c ∧ k ≤ xs.length ∧ 0 ≤ c ∧ c ≤ 1 ∧ MinusState xs ys os k c ∧ OB wr w.heap.size v os ∧ Below w.heap.size w wr) (fun _ _ s _ => 100001 - (intOf s).toNat)
 case atStart => exact ⟨0, 0, [], by go_num, rfl, by omega, by omega, by omega, MinusState.start _ _, OW.nil _ _, Below.refl _ _⟩
 case round =>
   obtain ⟨k, c, os, rfl, rfl, hk, hc0, hc1, hS, hO, hB⟩ := hrel
   have HS := hid hS
   have HO := hid hO
   have HB := hid hB
   have hol := hS.len
   have hbx := HX.out k
   have hby := HY.out k
   clear hS hO hB
   by_cases hka : k < xs.length
   · have hkaz : (k : Int) < (xs.length : Int) := by omega
     by_cases hkb : k < ys.length
     · have hkbz : (k : Int) < (ys.length : Int) := by omega
       obtain ⟨b1, o1, rfl, hxx⟩ := HP1.out (by omega)
       have hcx := bcl HB.out (hxx k hka)
       clear hxx
       obtain ⟨b2, o2, rfl, hyy⟩ := HP2.out (by omega)
       have hcy := bcl HB.out (hyy k hkb)
       clear hyy
       have HN := hid (fun d c' (h : d - 10 * c' = xs.getD k 0 - ys.getD k 0 - c) (hd : 0 ≤ d ∧ d < 10) => HS.out.step h hd)
       generalize xs.getD k 0 = x at hcx hbx HN
       generalize ys.getD k 0 = y at hcy hby HN
       go_wp2_with (at_builtin; refine wpList_append_own _ rfl _ _ 43 rfl w.heap.size 5 i0 (.int .u8 0) 1 1 Tryz.underlying43 hi hz0 hz1 hz2 rfl (by decide) _ _ _ rfl (World.ownsRow.alloc HO.out _) ⟨wr.heap.size, 0, none⟩ 1 1 [.int .u8 ((x + 10 - c - y) % 10)] rfl rfl (one_newO _ _ _) (by simp [Value.oneCell']) (by unfold maxLen; omega) (by omega) (by have := HB.out.size; simp; omega) ?_; intro v' w4 hown' hgrow _)
       have HOn := hid (OW.snoc hown')
       have HBn := hid (HO.out.grown HB.out hgrow (Nat.le_refl _))
       clear hown' hgrow
       go_wp2
       go_roundw
       case rel => exact ⟨k + 1, 1 - (x + 10 - c - y) / 10, os ++ [(x + 10 - c - y) % 10], by go_num, rfl, by omega, by omega, by omega, HN.out _ _ (by omega) (by omega), HOn.out, HBn.out⟩
       case measure => simp [intOf]; omega
     · have hkbz : ¬ (k : Int) < (ys.length : Int) := by omega
       obtain ⟨b1, o1, rfl, hxx⟩ := HP1.out (by omega)
       have hcx := bcl HB.out (hxx k hka)
       clear hxx
       have HN := hid (fun d c' (h : d - 10 * c' = xs.getD k 0 - ys.getD k 0 - c) (hd : 0 ≤ d ∧ d < 10) => HS.out.step h hd)
       rw [getD_len (show ys.length ≤ k by omega)] at HN
       generalize xs.getD k 0 = x at hcx hbx HN
       clear hby
       go_wp2_with (at_builtin; refine wpList_append_own _ rfl _ _ 43 rfl w.heap.size 5 i0 (.int .u8 0) 1 1 Tryz.underlying43 hi hz0 hz1 hz2 rfl (by decide) _ _ _ rfl (World.ownsRow.alloc HO.out _) ⟨wr.heap.size, 0, none⟩ 1 1 [.int .u8 ((x + 10 - c) % 10)] rfl rfl (one_newO _ _ _) (by simp [Value.oneCell']) (by unfold maxLen; omega) (by omega) (by have := HB.out.size; simp; omega) ?_; intro v' w4 hown' hgrow _)
       have HOn := hid (OW.snoc hown')
       have HBn := hid (HO.out.grown HB.out hgrow (Nat.le_refl _))
       clear hown' hgrow
       go_wp2
       go_roundw
       case rel => exact ⟨k + 1, 1 - (x + 10 - c) / 10, os ++ [(x + 10 - c) % 10], by go_num, rfl, by omega, by omega, by omega, HN.out _ _ (by omega) (by omega), HOn.out, HBn.out⟩
       case measure => simp [intOf]; omega
   · have hkaz : ¬ (k : Int) < (xs.length : Int) := by omega
     have HE := hid (HS.out.finish (by omega) (by omega) HGE.out ⟨hc0, hc1⟩)
     clear hbx hby
     have hrb := HO.out.rb (by omega)
     obtain ⟨p, cc, rfl, _, _, _⟩ := rb_form hrb
     have HRB := hid hrb
     clear hrb
     go_wp2_with fail
     rw [← hol]
     refine (cut_any _ _ _ _ HRB.out).mono ?_
     rintro e w5 ⟨kk, hkk, rfl, rfl⟩
     have HKK := hid hkk
     clear hkk
     go_wp2
     go_ret
     have hcut := HKK.out.canon (b := 10) (by decide) HS.out.dig
     exact ⟨_, _, rfl, HO.out.mine.cut HKK.out.1, by rw [hcut.2.2]; have := HKK.out.1; omega, hcut.1, by rw [hcut.2.1, HE.out], HB.out⟩
end
section
def sg (neg : Bool) (a : Int) : Int := if neg then -a else a
structure Sgn (b : Int) (neg : Bool) (ws : List Int) (z : Int) : Prop where
 canon : Canon b ws
 sign : neg = true → 0 < ws.length
 eq : z = sg neg (val b ws)
theorem Sgn.abs {b : Int} (hb : 0 < b) {neg : Bool} {ws : List Int} {z : Int} (h : Sgn b neg ws z) : val b ws = (z.natAbs : Int) := by
 have h1 := val_nonneg hb h.canon.1
 have := h.eq
 unfold sg at this
 split at this <;> omega
theorem Sgn.neg_iff {b : Int} (hb : 0 < b) {neg : Bool} {ws : List Int} {z : Int} (h : Sgn b neg ws z) : neg = decide (z < 0) := by
 have h1 := val_nonneg hb h.canon.1
 have := h.eq
 cases neg with
 | true => have h2 := h.canon.pos hb (h.sign rfl); simp [sg] at this; simp; omega
 | false => simp [sg] at this; simp; omega
theorem Sgn.uniq {b : Int} (hb : 1 < b) {n1 n2 : Bool} {xs ys : List Int} {z : Int} (h : Sgn b n1 xs z) (g : Sgn b n2 ys z) : n1 = n2 ∧ xs = ys :=
 ⟨(h.neg_iff (by omega)).trans (g.neg_iff (by omega)).symm, canon_uniq hb h.canon g.canon ((h.abs (by omega)).trans (g.abs (by omega)).symm)⟩
theorem Sgn.same {b : Int} (hb : 1 < b) {n1 n2 : Bool} {xs ys : List Int} {z : Int} (h : Sgn b n1 xs z) (g : Sgn b n2 ys z) : sameB n1 xs n2 ys = true := by
 obtain ⟨rfl, rfl⟩ := h.uniq hb g
 simp [sameB]
theorem Sgn.zero {b : Int} (hb : 0 < b) : Sgn b false [] 0 := ⟨Canon.nil hb, (fun h => by cases h), rfl⟩
theorem Sgn.empty {b : Int} (hb : 0 < b) {neg : Bool} {ws : List Int} {z : Int} (h : Sgn b neg ws z) : ws.length = 0 ↔ z = 0 := by
 have h1 := h.abs hb
 constructor
 · intro e
   obtain rfl := List.length_eq_zero_iff.1 e
   simp [val] at h1; omega
 · intro e
   subst e
   by_cases hl : 0 < ws.length
   · have := h.canon.pos hb hl; simp at h1; omega
   · omega
theorem Sgn.len {b : Int} (hb : 1 < b) {neg : Bool} {ws : List Int} {z : Int} (h : Sgn b neg ws z) (k : Nat) : ws.length ≤ k ↔ (z.natAbs : Int) < b ^ k := by
 rw [canon_len hb h.canon, h.abs (by omega)]
theorem Sgn.turn {b : Int} (hb : 0 < b) {neg : Bool} {ws : List Int} {z : Int} (h : Sgn b neg ws z) : Sgn b (!neg && decide (0 < ws.length)) ws (-z) := by
 refine ⟨h.canon, fun e => by simpa using (Bool.and_eq_true _ _ ▸ e : (!neg) = true ∧ decide (0 < ws.length) = true).2, ?_⟩
 have h1 := h.eq
 by_cases hl : 0 < ws.length
 · simp only [hl, decide_true, Bool.and_true]
   cases neg <;> simp [sg] at h1 ⊢ <;> omega
 · obtain rfl := List.length_eq_zero_iff.1 (by omega : ws.length = 0)
   simp [sg, val] at h1 ⊢
   cases neg <;> simp_all
theorem Canon.fit {ws : List Int} (h : Canon B18 ws) : Fit ws := fun i => by have := h.1 i; rw [B18] at this; omega
theorem goodB_of {neg : Bool} {ws : List Int} {z : Int} (h : Sgn B18 neg ws z) (hl : ws.length ≤ 30) : goodB neg ws = true := by
 by_cases h0 : ws.length = 0
 · unfold goodB
   rw [if_pos h0]
   cases neg with
   | false => rfl
   | true => have := h.sign rfl; omega
 · exact goodB_yes (by omega) hl (h.canon.2 (by omega)) (fun i _ => by have := h.canon.1 i; rw [B18] at this; omega)
theorem goodB_sgn {neg : Bool} {ws : List Int} (h : goodB neg ws = true) (hf : Fit ws) : Sgn B18 neg ws (sg neg (val B18 ws)) ∧ ws.length ≤ 30 := by
 unfold goodB at h
 by_cases h0 : ws.length = 0
 · rw [if_pos h0] at h
   obtain rfl := List.length_eq_zero_iff.1 h0
   refine ⟨⟨Canon.nil (by decide), fun e => ?_, rfl⟩, by simp⟩
   subst e; simp at h
 · rw [if_neg h0] at h
   simp only [Bool.and_eq_true, decide_eq_true_eq, bne_iff_ne, ne_eq, List.all_eq_true] at h
   obtain ⟨h1, h2, h3⟩ := h
   refine ⟨⟨⟨fun i => ?_, fun _ => h2⟩, fun _ => by omega, rfl⟩, h1⟩
   have hfi := hf i
   refine ⟨hfi.1, ?_⟩
   by_cases hi : i < ws.length
   · have := h3 (ws[i]) (List.getElem_mem hi)
     rw [List.getD_eq_getElem?_getD, List.getElem?_eq_getElem hi]
     simpa using this
   · rw [getD_len (by omega)]; decide
structure Small (z : Int) : Prop where
 lt : (z.natAbs : Int) < 10 ^ 540
theorem lim_eq : B18 ^ 30 = 10 ^ 540 := by
 have e : B18 = 10 ^ 18 := by decide
 rw [e, ← Int.pow_mul]
theorem Sgn.small {neg : Bool} {ws : List Int} {z : Int} (h : Sgn B18 neg ws z) : ws.length ≤ 30 ↔ Small z := by
 rw [h.len (by decide), lim_eq]
 exact ⟨fun h => ⟨h⟩, fun h => h.lt⟩
theorem Sgn.fits {neg : Bool} {ds : List Int} {z : Int} (h : Sgn 10 neg ds z) : ds.length ≤ 540 ↔ Small z := by
 rw [h.len (by decide)]
 exact ⟨fun h => ⟨h⟩, fun h => h.lt⟩
theorem made_sgn {w : World} {g B0 k : Nat} {ws : List Int} (neg : Bool) (hk : CutAt ws k) (hd : Dig B18 ws) (hL : LU w g ws) (hB : B0 ≤ g) :
   ∃ neg' p ws', madeV neg (some ⟨g, 0, none⟩) k = .agg #[.bool neg', .slice p k k] ∧ (∀ w' : World, w'.heap[g]? = w.heap[g]? → MU w' B0 (.slice p k k) ws') ∧ Sgn B18 neg' ws' (sg neg (val B18 ws)) ∧ ws'.length = k := by
 obtain ⟨h1, h2, h3⟩ := hk.canon (b := B18) (by decide) hd
 by_cases h0 : k = 0
 · subst h0
   refine ⟨false, none, [], if_pos rfl, fun w' _ => Mine.nil _ _, ⟨Canon.nil (by decide), fun h => (by cases h), ?_⟩, rfl⟩
   rw [List.take_zero] at h2
   rw [← h2]
   cases neg <;> rfl
 · refine ⟨neg, _, ws.take k, if_neg h0, fun w' e => LR.mine_take (hL.block e) hB hk.1, ⟨h1, fun _ => by omega, by rw [h2]⟩, h3⟩
end
end Go.Proofs.YtlhfemgimieooaaGreatDoor
