/- Layer 2, the document's answer: screeref02.Of: the digits of a number in form. -/
import Derived.Test.YtlhfemgimieooaaGreatDoorPGWc
import Derived.Deep.RegionHeld3
set_option linter.unusedVariables false
set_option linter.unusedSimpArgs false
set_option maxRecDepth 100000
set_option maxHeartbeats 1000000
namespace Go.Proofs.YtlhfemgimieooaaGreatDoor
open Go.Lib (hid)
open Go.ChangeShapes Go.WideShapes Go.ChangeAt Go.RowKit
section
theorem Sgn.rebase {b b' : Int} (hb : 0 < b) (hb' : 0 < b') {neg : Bool} {ws ds : List Int} {z : Int} (h : Sgn b neg ws z) (hc : Canon b' ds) (hv : val b' ds = val b ws) : Sgn b' neg ds z := by
 refine ⟨hc, fun e => ?_, by rw [hv]; exact h.eq⟩
 have h1 := h.canon.pos hb (h.sign e)
 rw [← hv] at h1
 cases ds with
 | nil => simp [val] at h1
 | cons d r => simp
def NumPost (W : World) (z : Int) (e : Ending) (w' : World) : Prop :=
 ∃ neg u ds, e = .returned (.agg #[.bool neg, u]) ∧ Rb w' u ds ∧ Sgn 10 neg ds z ∧ Below W.heap.size W w'
structure OfIn (xs os : List Int) (m k : Nat) (l : Int) : Prop where
 len : os.length = 18 * m + k
 dig : Dig 10 os
 sum : val 10 os + 10 ^ (18 * m + k) * l = val B18 (xs.take (m + 1))
 lo : 0 ≤ l
 hi : l * 10 ^ k < B18
structure OfOut (xs os : List Int) (m : Nat) : Prop where
 len : os.length = 18 * m
 dig : Dig 10 os
 sum : val 10 os = val B18 (xs.take m)
theorem pow18 (m : Nat) : (10 : Int) ^ (18 * m) = B18 ^ m := by
 have e : B18 = 10 ^ 18 := by decide
 rw [e, ← Int.pow_mul]
theorem OfOut.enter {xs os : List Int} {m : Nat} (h : OfOut xs os m) (hx : Dig B18 xs) : OfIn xs os m 0 (xs.getD m 0) :=
 ⟨h.len, h.dig, by rw [Nat.add_zero, pow18, val_take', h.sum], (hx m).1, by simpa using (hx m).2⟩
theorem OfIn.lt {xs os : List Int} {m k : Nat} {l : Int} (h : OfIn xs os m k l) : l < 1000000000000000000 := by
 have h1 := h.hi
 have h2 := pow_pos' (by decide : (0 : Int) < 10) k
 have h3 : l * 1 ≤ l * 10 ^ k := Int.mul_le_mul_of_nonneg_left (by omega) h.lo
 rw [B18] at h1
 omega
theorem OfIn.step {xs os : List Int} {m k : Nat} {l : Int} (h : OfIn xs os m k l) : OfIn xs (os ++ [l % 10]) m (k + 1) (l / 10) := by
 have h0 := h.lo
 refine ⟨by rw [List.length_append, h.len]; simp; omega, h.dig.append (Dig.cons (by omega) (Dig.nil (by decide))), ?_, by omega, ?_⟩
 · rw [val_snoc, h.len, ← Nat.add_assoc, Int.pow_succ]
   have h1 := h.sum
   have h2 : l = l % 10 + 10 * (l / 10) := by omega
   have h3 : (10 : Int) ^ (18 * m + k) * l = 10 ^ (18 * m + k) * (l % 10 + 10 * (l / 10)) := by rw [← h2]
   grind
 · have h1 := h.hi
   have h2 := pow_pos' (by decide : (0 : Int) < 10) k
   rw [Int.pow_succ]
   have h3 : 10 * (l / 10) * 10 ^ k ≤ l * 10 ^ k := Int.mul_le_mul_of_nonneg_right (by omega) (by omega)
   have h4 : l / 10 * (10 ^ k * 10) = 10 * (l / 10) * 10 ^ k := by grind
   omega
theorem OfIn.leave {xs os : List Int} {m : Nat} {l : Int} (h : OfIn xs os m 18 l) : OfOut xs os (m + 1) := by
 have h1 := h.hi
 have h0 := h.lo
 have e : l = 0 := by
   have : (10 : Int) ^ 18 = 1000000000000000000 := by decide
   rw [this, B18] at h1
   omega
 subst e
 exact ⟨by rw [h.len]; omega, h.dig, by have := h.sum; simpa using this⟩
theorem OfOut.nil (xs : List Int) : OfOut xs [] 0 := ⟨rfl, Dig.nil (by decide), by simp [val]⟩
theorem of_any (n1 : Bool) (u1 : Value) (xs : List Int) (z1 : Int) (w : World) (hr1 : Rd w u1 xs) (hs1 : Sgn B18 n1 xs z1) (hl1 : xs.length ≤ 100) :
   Calls Tryz.prog 80 #[.agg #[.bool n1, u1]] w (NumPost w z1) := by
 obtain ⟨i0, hi, hz0, hz1, hz2⟩ := info_parts infoU8
 obtain ⟨p1, c1, rfl, _, _, hp1⟩ := rd_form hr1
 have HP1 := hid hp1
 have HS1 := hid hs1
 clear hr1 hs1 hp1
 go_enter Tryz.func80, Tryz.ntmps80
 go_wp2_with fail
 generalize hw2 : World.alloc (World.alloc w _) _ = w2
 have hbx : Bx2 w2 w.heap.size n1 (.slice p1 xs.length c1) := by
   rw [← hw2]
   refine ⟨acl (by simp) _, acl (by simp) _, ?_, ?_, ?_, ?_, by simp⟩ <;> simp
 have HB2 := hid (show Below w.heap.size w w2 by rw [← hw2]; exact ((Below.refl _ _).alloc (Nat.le_refl _) _).alloc (by simp) _)
 clear hw2
 have HX2 := hid hbx
 have hlt2 := hbx.lt
 clear hbx
 go_loopw [3, 4] (fun v s wr => ∃ (m : Nat) (os : List Int), s = .int .i64 m ∧ m ≤ xs.length ∧ OfOut xs os m ∧ OB wr w2.heap.size v os ∧ Below w2.heap.size w2 wr) (fun _ s _ => xs.length - (intOf s).toNat)
 case atStart => exact ⟨0, [], by go_num, by omega, OfOut.nil _, OW.nil _ _, Below.refl _ _⟩
 case round =>
   obtain ⟨m, os, rfl, hm, hS, hO, hB⟩ := hrel
   have HS := hid hS
   have HO := hid hO
   have HB := hid hB
   have hx := HX2.out.keep hB
   have q0 := hx.x0
   have q1 := hx.x1
   have HX := hid hx
   clear hS hO hB hx
   by_cases hlt : m < xs.length
   · obtain ⟨b1, o1, rfl, hxx⟩ := HP1.out (by omega)
     have hcx := bcl HB.out (bcl HB2.out (hxx m hlt))
     clear hxx
     have hltz : (m : Int) < (xs.length : Int) := by omega
     have HE := hid (HS.out.enter HS1.out.canon.1)
     generalize xs.getD m 0 = l0 at hcx HE
     go_wp2_with fail
     obtain ⟨wo, rfl⟩ : ∃ wo : World, wo = wr := ⟨_, rfl⟩
     go_loopw [3, 5, 6] (fun v lv s wr => ∃ (k : Nat) (l : Int) (os : List Int), s = .int .i64 k ∧ lv = .int .u64 l ∧ k ≤ 18 ∧ OfIn xs os m k l ∧ OB wr w2.heap.size v os ∧ Below w2.heap.size w2 wr) (fun _ _ s _ => 18 - (intOf s).toNat)
     case atStart => exact ⟨0, l0, os, by go_num, rfl, by omega, HE.out, HO.out, HB.out⟩
     case round =>
       obtain ⟨k, l, os2, rfl, rfl, hk, hS, hO, hB⟩ := hrel
       have HSI := hid hS
       have HOI := hid hO
       have HBI := hid hB
       have hlo := hS.lo
       have hhi := hS.lt
       have hol := hS.len
       clear hS hO hB
       by_cases hk18 : k < 18
       · have hkz : (k : Int) < 18 := by omega
         go_wp2_with (at_builtin; refine wpList_append_own _ rfl _ _ 43 rfl w2.heap.size 5 i0 (.int .u8 0) 1 1 Tryz.underlying43 hi hz0 hz1 hz2 rfl (by decide) _ _ _ rfl (World.ownsRow.alloc HOI.out _) ⟨wr.heap.size, 0, none⟩ 1 1 [.int .u8 (l % 10)] rfl rfl (one_newO _ _ _) (by simp [Value.oneCell']) (by unfold maxLen; omega) (by omega) (by have := HBI.out.size; simp; omega) ?_; intro v' w4 hown' hgrow _)
         have HOn := hid (OW.snoc hown')
         have HBn := hid (HOI.out.grown HBI.out hgrow (Nat.le_refl _))
         have HSn := hid HSI.out.step
         clear hown' hgrow
         go_wp2
         go_roundw
         case rel => exact ⟨k + 1, l / 10, os2 ++ [l % 10], by go_num, rfl, by omega, HSn.out, HOn.out, HBn.out⟩
         case measure => simp [intOf]; omega
       · obtain rfl : k = 18 := by omega
         have HL := hid HSI.out.leave
         clear hol
         go_wp2
         go_roundw
         case rel => exact ⟨m + 1, os2, by go_num, by omega, HL.out, HOI.out, HBI.out⟩
         case measure => simp [intOf]; omega
   · have hltz : ¬ (m : Int) < (xs.length : Int) := by omega
     obtain rfl : m = xs.length := by omega
     have hlen := HS.out.len
     have HV := hid (HS.out.sum.trans (val_full B18 (Nat.le_refl _)))
     have HMI := hid HO.out.mine
     have hrb := HO.out.rb (by omega)
     obtain ⟨p, cc, rfl, _, _, _⟩ := rb_form hrb
     have HRB := hid hrb
     have r0 := HX.out.r0
     have r1 := HX.out.r1
     have f0 := HX.out.f0
     have f1 := HX.out.f1
     have hlt := HX.out.lt
     have HCUT := hid (fun (wx : World) (hx : Below wr.heap.size wr wx) => cut_any p cc os wx (HRB.out.keep hx))
     rw [hlen] at HCUT
     clear hrb
     go_wp2_with fail
     go_region_held3 (fun w' => w'.cell? ⟨w.heap.size, 0, none⟩ = some (.bool n1))
       (first | assumption | exact cell_set2 (by omega) (by assumption) _ _ | go_keep)
       ((go_at_call 83; refine (HCUT.out _ (by first | exact Below.refl _ _ | exact (Below.refl _ _).drew)).mono ?_; rintro e w5 ⟨kk, hkk, rfl, rfl⟩; have HKK := hid hkk; clear hkk))
     go_wp2_with fail
     have zz := two_setW (x0 := .bool n1) (x1 := .slice p kk cc) r0 r1
     have hcut := HKK.out.canon (b := 10) (by decide) HS.out.dig
     refine bodyPost_ret (v := .agg #[.bool n1, .slice p kk cc]) (by simp [results, Tryz.results80, go_sem, zz.1, zz.2]) rfl ⟨n1, _, _, rfl, ((HMI.out.cut HKK.out.1).set2 hlt2 _ _).rb (by rw [hcut.2.2]; have := HKK.out.1; omega), HS1.out.rebase (by decide) (by decide) hcut.1 (by rw [hcut.2.1, HV.out]), ?_⟩
     exact ((((HB2.out.trans (HB.out.mono HB2.out.size)).setCell (by simp) _).setCell (by simp) _).drew)
end
section
def part (ds : List Int) (a j : Nat) : Int := val 10 ((ds.drop a).take j)
theorem part_zero (ds : List Int) (a : Nat) : part ds a 0 = 0 := by simp [part, val]
theorem part_step (ds : List Int) (a j : Nat) : part ds a (j + 1) = 10 * part ds (a + 1) j + ds.getD a 0 := by
 unfold part
 by_cases h : a < ds.length
 · rw [List.drop_eq_getElem_cons h, List.take_succ_cons]
   simp [val, List.getD_eq_getElem?_getD, h]; omega
 · rw [List.drop_eq_nil_of_le (by omega), List.drop_eq_nil_of_le (by omega), getD_len (by omega)]
   simp [val]
theorem part_lt {ds : List Int} (h : Dig 10 ds) (a j : Nat) : 0 ≤ part ds a j ∧ part ds a j < 10 ^ j := by
 have hd : Dig 10 ((ds.drop a).take j) := Dig.take (fun i => by rw [getD_dropD]; exact h _) (by decide) j
 refine ⟨val_nonneg (by decide) hd, Int.lt_of_lt_of_le (val_lt (by decide) hd) (pow_mono' (by decide) ?_)⟩
 rw [List.length_take]; exact Nat.min_le_left _ _
theorem part_low {ds : List Int} (h : Dig 10 ds) (a j : Nat) (hj : j < 18) : part ds a j < 100000000000000000 := by
 have h1 := (part_lt h a j).2
 have h2 := pow_mono' (by decide : (1 : Int) ≤ 10) (show j ≤ 17 by omega)
 have h3 : (10 : Int) ^ 17 = 100000000000000000 := by decide
 omega
theorem part_full {ds : List Int} (h : Dig 10 ds) (a : Nat) : part ds a 18 < 1000000000000000000 := by
 have h1 := (part_lt h a 18).2
 have h3 : (10 : Int) ^ 18 = 1000000000000000000 := by decide
 omega
theorem part_rest (ds : List Int) (a : Nat) : val 10 (ds.drop a) = part ds a 18 + B18 * val 10 (ds.drop (a + 18)) := by
 unfold part
 have e := List.take_append_drop 18 (ds.drop a)
 have h := val_append 10 ((ds.drop a).take 18) ((ds.drop a).drop 18)
 rw [e, List.drop_drop] at h
 rw [h, List.length_take]
 by_cases hl : 18 ≤ (ds.drop a).length
 · rw [Nat.min_eq_left hl]; rfl
 · have : ds.drop (a + 18) = [] := List.drop_eq_nil_of_le (by rw [List.length_drop] at hl; omega)
   rw [this]; simp [val]
structure ToState (ds os : List Int) (m : Nat) : Prop where
 len : os.length = m
 dig : Dig B18 os
 sum : val B18 os + B18 ^ m * val 10 (ds.drop (18 * m)) = val 10 ds
 last : 0 < m → ds.length ≤ 18 * m → os.getD (m - 1) 0 ≠ 0
theorem ToState.nil (ds : List Int) : ToState ds [] 0 := ⟨rfl, Dig.nil (by decide), by simp [val], fun h => absurd h (by omega)⟩
theorem ToState.step {ds os : List Int} {m : Nat} (h : ToState ds os m) (hc : Canon 10 ds) (hlt : 18 * m < ds.length) : ToState ds (os ++ [part ds (18 * m) 18]) (m + 1) := by
 have hp := part_lt hc.1 (18 * m) 18
 have hpf := part_full hc.1 (18 * m)
 refine ⟨by simp [h.len], h.dig.append (Dig.cons ⟨hp.1, by rw [B18]; exact hpf⟩ (Dig.nil (by decide))), ?_, fun _ hle => ?_⟩
 · rw [val_snoc, h.len, Int.pow_succ, show 18 * (m + 1) = 18 * m + 18 by omega]
   have h1 := h.sum
   rw [part_rest ds (18 * m)] at h1
   grind
 · rw [show m + 1 - 1 = m by omega, List.getD_eq_getElem?_getD, List.getElem?_append_right (by rw [h.len]; exact Nat.le_refl _), h.len]
   simp only [Nat.sub_self, List.getElem?_cons_zero, Option.getD_some]
   have hr := part_rest ds (18 * m)
   have hn : ds.drop (18 * m + 18) = [] := List.drop_eq_nil_of_le (by omega)
   rw [hn] at hr
   simp [val] at hr
   have hcd : Canon 10 (ds.drop (18 * m)) := ⟨fun i => by rw [getD_dropD]; exact hc.1 _, fun hl => by
     rw [getD_dropD, List.length_drop]
     have := hc.2 (by omega)
     rw [show 18 * m + (ds.length - 18 * m - 1) = ds.length - 1 by omega]
     exact this⟩
   have := hcd.pos (by decide) (by rw [List.length_drop]; omega)
   omega
theorem ToState.finish {ds os : List Int} {m : Nat} (h : ToState ds os m) (hle : ds.length ≤ 18 * m) : Canon B18 os ∧ val B18 os = val 10 ds := by
 refine ⟨⟨h.dig, fun hl => ?_⟩, ?_⟩
 · rw [h.len] at hl ⊢
   exact h.last hl hle
 · have := h.sum
   rw [List.drop_eq_nil_of_le hle] at this
   simpa [val] using this
structure TB (w wr : World) (B S : Nat) (n1 : Bool) (u1 v : Value) : Prop where
 x0 : wr.cell? ⟨B, 0, none⟩ = some (.bool n1)
 x1 : wr.cell? ⟨B, 1, none⟩ = some u1
 r0 : wr.cell? ⟨B + 1, 0, none⟩ = some (.bool false)
 r1 : wr.cell? ⟨B + 1, 1, none⟩ = some (.slice none 0 0)
 f0 : wr.frozen? ⟨B + 1, 0, none⟩ = false
 f1 : wr.frozen? ⟨B + 1, 1, none⟩ = false
 c0 : wr.cell? ⟨B + 1 + 1, 0, none⟩ = some (.bool false)
 c1 : wr.cell? ⟨B + 1 + 1, 1, none⟩ = some v
 g0 : wr.frozen? ⟨B + 1 + 1, 0, none⟩ = false
 g1 : wr.frozen? ⟨B + 1 + 1, 1, none⟩ = false
 le : S ≤ wr.heap.size
 below : Below B w wr
theorem TB.keep {w wr w' : World} {B S : Nat} {n1 : Bool} {u1 v : Value} (h : TB w wr B S n1 u1 v) (hS : B + 1 + 1 < S) (hb : Below S wr w') : TB w w' B S n1 u1 v := by
 have c : ∀ b o, b < S → w'.cell? ⟨b, o, none⟩ = wr.cell? ⟨b, o, none⟩ := fun b o h => hb.cell (p := ⟨b, o, none⟩) h
 have f : ∀ b o, b < S → w'.frozen? ⟨b, o, none⟩ = wr.frozen? ⟨b, o, none⟩ := fun b o h => hb.frozen (p := ⟨b, o, none⟩) h
 exact ⟨(c _ _ (by omega)).trans h.x0, (c _ _ (by omega)).trans h.x1, (c _ _ (by omega)).trans h.r0, (c _ _ (by omega)).trans h.r1, (f _ _ (by omega)).trans h.f0, (f _ _ (by omega)).trans h.f1,
   (c _ _ (by omega)).trans h.c0, (c _ _ (by omega)).trans h.c1, (f _ _ (by omega)).trans h.g0, (f _ _ (by omega)).trans h.g1, Nat.le_trans h.le hb.size, h.below.trans (hb.mono (by omega))⟩
theorem TB.store {w wr : World} {B S : Nat} {n1 : Bool} {u1 v : Value} (h : TB w wr B S n1 u1 v) (v' : Value) : TB w (wr.setCell ⟨B + 1 + 1, 1, none⟩ v') B S n1 u1 v' := by
 have c : ∀ b o, b ≠ B + 1 + 1 → (wr.setCell ⟨B + 1 + 1, 1, none⟩ v').cell? ⟨b, o, none⟩ = wr.cell? ⟨b, o, none⟩ := fun b o e => World.cell?_of_block (a := ⟨b, o, none⟩) (Below.heap_setCell _ _ _ _ e)
 have f : ∀ b o, b ≠ B + 1 + 1 → (wr.setCell ⟨B + 1 + 1, 1, none⟩ v').frozen? ⟨b, o, none⟩ = wr.frozen? ⟨b, o, none⟩ := fun b o e => World.frozen?_of_block (a := ⟨b, o, none⟩) (Below.heap_setCell _ _ _ _ e)
 have n0 : (⟨B + 1 + 1, 1, none⟩ : Addr) ≠ ⟨B + 1 + 1, 0, none⟩ := by simp
 have e0 : (wr.setCell ⟨B + 1 + 1, 1, none⟩ v').cell? ⟨B + 1 + 1, 0, none⟩ = some (.bool false) := (World.cell?_setCell_other _ _ _ _ n0).trans h.c0
 have e1 : (wr.setCell ⟨B + 1 + 1, 1, none⟩ v').cell? ⟨B + 1 + 1, 1, none⟩ = some v' := World.cell?_setCell_same _ _ _ h.c1
 have g0 : (wr.setCell ⟨B + 1 + 1, 1, none⟩ v').frozen? ⟨B + 1 + 1, 0, none⟩ = false := by rw [World.frozen?_setCell]; exact h.g0
 have g1 : (wr.setCell ⟨B + 1 + 1, 1, none⟩ v').frozen? ⟨B + 1 + 1, 1, none⟩ = false := by rw [World.frozen?_setCell]; exact h.g1
 have le : S ≤ (wr.setCell ⟨B + 1 + 1, 1, none⟩ v').heap.size := by rw [World.size_setCell]; exact h.le
 have bl : Below B w (wr.setCell ⟨B + 1 + 1, 1, none⟩ v') := h.below.setCell (show B ≤ B + 1 + 1 by omega) _
 exact ⟨(c _ _ (by omega)).trans h.x0, (c _ _ (by omega)).trans h.x1, (c _ _ (by omega)).trans h.r0, (c _ _ (by omega)).trans h.r1, (f _ _ (by omega)).trans h.f0, (f _ _ (by omega)).trans h.f1, e0, e1, g0, g1, le, bl⟩
theorem OW.setBox {k : IntKind} {T : TypeId} {w : World} {ws : List Int} {S B : Nat} {v : Value} (h : OW k T w S v ws) (hB : B < S) {i : Nat} (x : Value) : OW k T (w.setCell ⟨B, i, none⟩ x) S v ws := by
 obtain ⟨h1, h2⟩ := h
 refine ⟨h1, ?_⟩
 rcases h2 with h2 | ⟨g, cap, cur, hv, hg, hh, r⟩
 · exact .inl h2
 · exact .inr ⟨g, cap, cur, hv, hg, (Below.heap_setCell _ _ _ _ (by simp; omega)).trans hh, r⟩
theorem to_any (n1 : Bool) (u1 : Value) (ds : List Int) (z1 : Int) (w : World) (hr1 : Rb w u1 ds) (hs1 : Sgn 10 n1 ds z1) (hl1 : ds.length ≤ 100000) :
   Calls Tryz.prog 49 #[.agg #[.bool n1, u1]] w (BigPost w w.heap.size z1) := by
 obtain ⟨i0, hi, hz0, hz1, hz2⟩ := info_parts infoU64
 obtain ⟨p1, c1, rfl, _, _, hp1⟩ := rb_form hr1
 have HP1 := hid hp1
 have HS1 := hid hs1
 clear hr1 hs1 hp1
 go_enter Tryz.func49, Tryz.ntmps49
 go_wp2_with fail
 generalize hw2 : World.alloc (World.alloc (World.alloc w _) _) _ = w2
 have hbx : TB w w2 w.heap.size w2.heap.size n1 (.slice p1 ds.length c1) (.slice none 0 0) := by
   rw [← hw2]
   refine ⟨acl (acl (by simp) _) _, acl (acl (by simp) _) _, acl (by simp) _, acl (by simp) _, alloc_frozen (by simp) (by simp) _, alloc_frozen (by simp) (by simp) _, third_cell _ _ _ _ _ 0, third_cell _ _ _ _ _ 1, third_fr _ _ _ _ _ 0, third_fr _ _ _ _ _ 1, Nat.le_refl _, (((Below.refl _ _).alloc (Nat.le_refl _) _).alloc (by simp) _).alloc (by simp; omega) _⟩
 have hsz : w.heap.size + 1 + 1 < w2.heap.size := by rw [← hw2]; simp
 clear hw2
 have HPT := hid (part_step ds)
 go_loopw [4] (fun s wr => ∃ (i m : Nat) (os : List Int) (v : Value), s = .int .i64 (i : Int) ∧ i ≤ 100050 ∧ Hid (i = 18 * m) ∧ ToState ds os m ∧ OW .u64 U64 wr w2.heap.size v os ∧ TB w wr w.heap.size w2.heap.size n1 (.slice p1 ds.length c1) v) (fun s _ => 100100 - (intOf s).toNat)
 case atStart => exact ⟨0, 0, [], _, by go_num, by omega, rfl, ToState.nil _, OW.nil _ _, hbx⟩
 case round =>
   obtain ⟨i, m, os, v, rfl, hm, HI, hS, hO, hT⟩ := hrel
   have HS := hid hS
   have HO := hid hO
   have HT := hid hT
   have hol := hS.len
   have q0 := hT.x0
   have q1 := hT.x1
   have q2 := hT.c0
   have q3 := hT.c1
   have q4 := hT.g0
   have q5 := hT.g1
   have hle := hT.le
   have HOL := hid hol
   have hm2 : m ≤ 5558 := by have := HI.out; omega
   clear hS hO hT hol
   by_cases hlt : i < ds.length
   · have hltz : (i : Int) < (ds.length : Int) := by omega
     obtain ⟨b1, o1, rfl, hxx⟩ := HP1.out (by omega)
     have HXX := hid hxx
     clear hxx
     go_wp2_with fail
     obtain ⟨wo, rfl⟩ : ∃ wo : World, wo = wr := ⟨_, rfl⟩
     go_loop [5, 6] (fun lv s => ∃ (a e : Nat) (l : Int), s = .int .i64 ((a : Int) - 1) ∧ lv = .int .u64 l ∧ Hid (a = i + e) ∧ i ≤ a ∧ a ≤ i + 18 ∧ 0 ≤ l ∧ l < 1000000000000000000 ∧ Hid (l = part ds a (18 - e))) (fun _ s => (intOf s + 1 - i).toNat)
     case atStart => exact ⟨i + 18, 18, 0, by go_num, rfl, rfl, by omega, by omega, by omega, by omega, (part_zero _ _).symm⟩
     case round =>
       obtain ⟨a, e, l, rfl, rfl, HA, ha1, ha2, hl0, hl1, HL⟩ := hrel
       by_cases he : i < a
       · obtain ⟨d, rfl⟩ : ∃ d, a = d + 1 := ⟨a - 1, by omega⟩
         have hk : ((d + 1 : Nat) : Int) - 1 = (d : Int) := by omega
         rw [hk]
         have hdi : (i : Int) ≤ (d : Int) := by omega
         have hj : 18 - (e - 1) = 18 - e + 1 := by have := HA.out; omega
         have hlow : l < 100000000000000000 := by
           rw [HL.out]
           exact part_low HS1.out.canon.1 _ _ (by have := HA.out; omega)
         have HST := hid (HPT.out d (18 - e))
         have HJ := hid hj
         have HD := hid (HS1.out.canon.1 d)
         clear hk hj
         by_cases hdl : d < ds.length
         · have hdlz : (d : Int) < (ds.length : Int) := by omega
           have hcx := bcl HT.out.below (HXX.out d hdl)
           have hdg := HD.out
           generalize ds.getD d 0 = y at hcx hdg HST
           go_wp2_with fail
           go_round
           case rel => exact ⟨d, e - 1, l * 10 + y, rfl, rfl, (by have := HA.out; show d = i + (e - 1); omega), by omega, by omega, by omega, by omega, by
             show l * 10 + y = _
             rw [HJ.out, HST.out, HL.out]; omega⟩
           case measure => simp [intOf]; omega
         · have hdlz : ¬ (d : Int) < (ds.length : Int) := by omega
           have hy : ds.getD d 0 = 0 := getD_len (by omega)
           rw [hy] at HST
           clear hy
           go_wp2_with fail
           go_round
           case rel => exact ⟨d, e - 1, l * 10, rfl, rfl, (by have := HA.out; show d = i + (e - 1); omega), by omega, by omega, by omega, by omega, by
             show l * 10 = _
             rw [HJ.out, HST.out, HL.out]; omega⟩
           case measure => simp [intOf]; omega
       · obtain rfl : a = i := by omega
         have hlz : l = part ds (18 * m) 18 := by
           rw [HL.out, HI.out]; congr 1; have := HA.out; omega
         have HLZ := hid hlz
         clear hlz
         go_wp2_with (at_builtin; refine wpList_append_own _ rfl _ _ 22 rfl w2.heap.size 25 i0 (.int .u64 0) 1 8 Tryz.underlying22 hi hz0 hz1 hz2 rfl (by decide) _ _ _ rfl (World.ownsRow.alloc HO.out _) ⟨wo.heap.size, 0, none⟩ 1 1 [.int .u64 l] rfl rfl (one_newO _ _ _) (by simp [Value.oneCell']) (by have := HOL.out; unfold maxLen; omega) (by have := HOL.out; omega) (by simp; omega) ?_; intro v' w4 hown' hgrow _; have HOn := hid (OW.snoc hown'); have HTn := hid (HT.out.keep hsz (HO.out.stays hgrow hle)); have hrd := HOn.out.rd (show (os ++ [l]).length ≤ _ by rw [List.length_append, HOL.out, List.length_singleton]; omega); obtain ⟨pv, cv, rfl, _, _, _⟩ := rd_form hrd; have t0 := HTn.out.x0; have t1 := HTn.out.x1; have t2 := HTn.out.c0; have t3 := HTn.out.c1; have t4 := HTn.out.g0; have t5 := HTn.out.g1; clear hown' hgrow hrd q0 q1 q2 q3 q4 q5)
         have HST := hid (HS.out.step HS1.out.canon (by have := HI.out; omega))
         go_roundw
         case rel =>
           have e1 : (os ++ [l]).length = os.length + 1 := by simp
           have HO2 := HOn.out
           rw [e1] at HO2
           refine ⟨a + 18, m + 1, os ++ [l], _, by go_num, by omega, (by have := HI.out; show a + 18 = 18 * (m + 1); omega), ?_, HO2.setBox hsz _, HTn.out.store _⟩
           rw [HLZ.out]; exact HST.out
         case measure => simp [intOf]; omega
   · have hltz : ¬ (i : Int) < (ds.length : Int) := by omega
     have HF := hid (HS.out.finish (by have := HI.out; omega))
     have hrd := HO.out.rd (by have := HOL.out; omega)
     obtain ⟨pv, cv, rfl, _, _, _⟩ := rd_form hrd
     have HR := hid (HS1.out.rebase (b' := B18) (by decide) (by decide) HF.out.1 HF.out.2)
     have r0 := HT.out.r0
     have r1 := HT.out.r1
     have rf0 := HT.out.f0
     have rf1 := HT.out.f1
     clear hrd
     cases n1 with
     | false =>
       go_wp2_with fail
       have hr0 := (World.cell?_of_block (a := ⟨w.heap.size + 1, 0, none⟩) (Below.heap_setCell wr ⟨w.heap.size + 1 + 1, 0, none⟩ (.bool false) (w.heap.size + 1) (by simp))).trans r0
       have hr1 := (World.cell?_of_block (a := ⟨w.heap.size + 1, 1, none⟩) (Below.heap_setCell wr ⟨w.heap.size + 1 + 1, 0, none⟩ (.bool false) (w.heap.size + 1) (by simp))).trans r1
       have zz := two_setW (x0 := .bool false) (x1 := .slice pv os.length cv) hr0 hr1
       refine bodyPost_ret (v := .agg #[.bool false, .slice pv os.length cv]) (by simp [results, Tryz.results49, go_sem, zz.1, zz.2]) rfl ⟨false, _, os, rfl, (((HO.out.setBox hsz _).mine).set2 (by omega) _ _).low (by omega), HR.out, ?_⟩
       exact ((HT.out.below.setCell (by simp; omega) _).setCell (by simp) _).setCell (by simp) _
     | true =>
       have hpos := HS1.out.sign rfl
       have hposz : (0 : Int) < (ds.length : Int) := by omega
       go_wp2_with fail
       have hr0 := (World.cell?_of_block (a := ⟨w.heap.size + 1, 0, none⟩) (Below.heap_setCell wr ⟨w.heap.size + 1 + 1, 0, none⟩ (.bool true) (w.heap.size + 1) (by simp))).trans r0
       have hr1 := (World.cell?_of_block (a := ⟨w.heap.size + 1, 1, none⟩) (Below.heap_setCell wr ⟨w.heap.size + 1 + 1, 0, none⟩ (.bool true) (w.heap.size + 1) (by simp))).trans r1
       have zz := two_setW (x0 := .bool true) (x1 := .slice pv os.length cv) hr0 hr1
       refine bodyPost_ret (v := .agg #[.bool true, .slice pv os.length cv]) (by simp [results, Tryz.results49, go_sem, zz.1, zz.2]) rfl ⟨true, _, os, rfl, (((HO.out.setBox hsz _).mine).set2 (by omega) _ _).low (by omega), HR.out, ?_⟩
       exact ((HT.out.below.setCell (by simp; omega) _).setCell (by simp) _).setCell (by simp) _
end
section
theorem turn_any (n1 : Bool) (u1 : Value) (ds : List Int) (z1 : Int) (w : World) (hr1 : Rb w u1 ds) (hs1 : Sgn 10 n1 ds z1) :
   Calls Tryz.prog 41 #[.agg #[.bool n1, u1]] w (NumPost w (-z1)) := by
 have HR1 := hid hr1
 obtain ⟨p1, c1, rfl, _, _, _⟩ := rb_form hr1
 have HS1 := hid hs1
 have HT := hid (hs1.turn (by decide))
 clear hr1 hs1
 have hB : ∀ o o', Below w.heap.size w ((w.alloc o).alloc o') := fun o o' => ((Below.refl _ _).alloc (Nat.le_refl _) _).alloc (by simp) _
 have HB := hid hB
 have FIN := hid (fun (b : Bool) (o o' : Obj) (hb : b = (!n1 && decide (0 < ds.length))) => show NumPost w (-z1) (.returned (.agg #[.bool b, .slice p1 ds.length c1])) ((w.alloc o).alloc o') from
   ⟨b, _, ds, rfl, HR1.out.keep (HB.out _ _), by rw [hb]; exact HT.out, HB.out _ _⟩)
 clear hB
 cases n1 with
 | true =>
   go_enter Tryz.func41, Tryz.ntmps41
   go_wp2
   exact bodyPost_ret (v := .agg #[.bool false, .slice p1 ds.length c1]) (by simp [results, Tryz.results41, go_sem]) rfl (FIN.out false _ _ rfl)
 | false =>
   by_cases hl : 0 < ds.length
   · have hlz : (0 : Int) < (ds.length : Int) := by omega
     have hd : decide ((0 : Int) < (ds.length : Int)) = true := by simpa using hl
     have HD := hid (show true = (!false && decide (0 < ds.length)) by simp [hl])
     go_enter Tryz.func41, Tryz.ntmps41
     go_wp2
     exact bodyPost_ret (v := .agg #[.bool true, .slice p1 ds.length c1]) (by simp [results, Tryz.results41, go_sem]) rfl (FIN.out true _ _ HD.out)
   · have hlz : ¬ (0 : Int) < (ds.length : Int) := by omega
     have hd : decide ((0 : Int) < (ds.length : Int)) = false := by simpa using hl
     have HD := hid (show false = (!false && decide (0 < ds.length)) by rw [decide_eq_false hl]; rfl)
     go_enter Tryz.func41, Tryz.ntmps41
     go_wp2
     exact bodyPost_ret (v := .agg #[.bool false, .slice p1 ds.length c1]) (by simp [results, Tryz.results41, go_sem]) rfl (FIN.out false _ _ HD.out)
end
section
theorem Mine.form {k : IntKind} {T : TypeId} {w : World} {B : Nat} {u : Value} {ws : List Int} (h : Mine k T w B u ws) : ∃ p c, u = .slice p ws.length c := by
 rcases h with ⟨rfl, rfl⟩ | ⟨g, c, cur, h0, _⟩
 · exact ⟨_, _, rfl⟩
 · exact ⟨_, _, h0⟩
theorem Sgn.made {b : Int} (hb : 0 < b) {n : Bool} {os : List Int} {a z : Int} (hc : Canon b os) (hv : val b os = a) (hp : n = true → 0 < a) (hz : sg n a = z) : Sgn b n os z := by
 refine ⟨hc, fun e => ?_, by rw [hv, hz]⟩
 have h1 := hp e
 cases os with
 | nil => simp [val] at hv; omega
 | cons d r => simp
theorem Sgn.pos {b : Int} (hb : 0 < b) {n : Bool} {ws : List Int} {z : Int} (h : Sgn b n ws z) (e : n = true) : 0 < val b ws := h.canon.pos hb (h.sign e)
theorem len_le10 {xs ys : List Int} (hx : Canon 10 xs) (hy : Canon 10 ys) (h : val 10 xs ≤ val 10 ys) : xs.length ≤ ys.length := by
 apply Classical.byContradiction
 intro hc
 have := len_lt (b := 10) (by decide) hy hx (by omega)
 omega
theorem rp_same (n1 : Bool) (u1 : Value) (xs : List Int) (z1 : Int) (n2 : Bool) (u2 : Value) (ys : List Int) (z2 : Int) (w : World) (hr1 : Rb w u1 xs) (hr2 : Rb w u2 ys) (hs1 : Sgn 10 n1 xs z1) (hs2 : Sgn 10 n2 ys z2) (hl1 : xs.length ≤ 100000) (hl2 : ys.length ≤ 100000) (hn : n1 = n2) :
   Calls Tryz.prog 122 #[.agg #[.bool n1, u1], .agg #[.bool n2, u2]] w (NumPost w (z1 + z2)) := by
 subst hn
 have HR1 := hid hr1
 have HR2 := hid hr2
 obtain ⟨p1, c1, rfl, _, _, _⟩ := rb_form hr1
 obtain ⟨p2, c2, rfl, _, _, _⟩ := rb_form hr2
 have HS1 := hid hs1
 have HS2 := hid hs2
 clear hr1 hr2 hs1 hs2
 go_enter Tryz.func122, Tryz.ntmps122
 go_wp2_with fail
 generalize hw2 : World.alloc (World.alloc (World.alloc w _) _) _ = w2
 have hbx : Bx3 w2 w.heap.size n1 (.slice p1 xs.length c1) n1 (.slice p2 ys.length c2) := by
   rw [← hw2]
   exact ⟨acl (acl (by simp) _) _, acl (acl (by simp) _) _, acl (by simp) _, acl (by simp) _, third_cell _ _ _ _ _ 0, third_cell _ _ _ _ _ 1, third_fr _ _ _ _ _ 0, third_fr _ _ _ _ _ 1, by simp⟩
 have HB2 := hid (show Below w.heap.size w w2 by rw [← hw2]; exact (((Below.refl _ _).alloc (Nat.le_refl _) _).alloc (by simp) _).alloc (by simp; omega) _)
 clear hw2
 have HX2 := hid hbx
 have s0 := hbx.x0
 have s1 := hbx.x1
 have s2 := hbx.y0
 have s3 := hbx.y1
 have r0 := hbx.r0
 have r1 := hbx.r1
 have f0 := hbx.f0
 have f1 := hbx.f1
 have hlt := hbx.lt
 clear hbx
 have HC := hid (fun (wx : World) (hx : Below w.heap.size w wx) => plus_any _ _ xs ys wx (HR1.out.keep hx) (HR2.out.keep hx) HS1.out.canon.1 HS2.out.canon.1 hl1 hl2)
 go_region_held3 (fun w' => w'.cell? ⟨w.heap.size, 0, none⟩ = some (.bool n1) ∧ w'.cell? ⟨w.heap.size, 1, none⟩ = some (.slice p1 xs.length c1) ∧ w'.cell? ⟨w.heap.size + 1, 1, none⟩ = some (.slice p2 ys.length c2))
   ((repeat' apply And.intro) <;> (first | assumption | exact cell_set2 (by omega) (by assumption) _ _ | go_keep))
   ((go_at_call 155; refine (HC.out _ (by first | exact HB2.out | exact HB2.out.drew)).mono ?_; rintro e w6 ⟨u, os, rfl, hM, hol, hcan, hv, hb5⟩; have hq5 : Below w2.heap.size w2 w6 := ⟨hb5.os, hb5.tape, hb5.output, hb5.size, hb5.block⟩; obtain ⟨p, c, rfl⟩ := Mine.form hM; have hx6 := HX2.out.keep hq5; have k60 := hx6.x0; have k61 := hx6.x1; have k62 := hx6.y1; have m0 := hx6.r0; have m1 := hx6.r1; have mf0 := hx6.f0; have mf1 := hx6.f1; have HM := hid (show Mine .u8 U8 w6 w2.heap.size _ os from hM); have HOL := hid hol; have HCA := hid hcan; have HV5 := hid hv; have HB6 := hid (HB2.out.trans (hq5.mono HB2.out.size)); clear hM hol hcan hv hq5 hb5 hx6))
 go_wp2_with fail
 have zz := two_setW (x0 := .bool n1) (x1 := .slice p os.length c) m0 m1
 refine bodyPost_ret (v := .agg #[.bool n1, .slice p os.length c]) (by simp [results, Tryz.results122, go_sem, zz.1, zz.2]) rfl ⟨n1, _, os, rfl, (HM.out.set2 hlt _ _).rb HOL.out, Sgn.made (by decide) HCA.out HV5.out (fun e => by have := HS1.out.pos (by decide) e; have := val_nonneg (by decide : (0 : Int) < 10) HS2.out.canon.1; omega) (by rw [sg_add, ← HS1.out.eq, ← HS2.out.eq]), (HB6.out.setCell (by simp; omega) _).setCell (by simp; omega) _⟩
theorem rp_lt (n1 : Bool) (u1 : Value) (xs : List Int) (z1 : Int) (n2 : Bool) (u2 : Value) (ys : List Int) (z2 : Int) (w : World) (hr1 : Rb w u1 xs) (hr2 : Rb w u2 ys) (hs1 : Sgn 10 n1 xs z1) (hs2 : Sgn 10 n2 ys z2) (hl1 : xs.length ≤ 100000) (hl2 : ys.length ≤ 100000) (hne : (n1 == n2) = false) (hc : val 10 xs < val 10 ys) :
   Calls Tryz.prog 122 #[.agg #[.bool n1, u1], .agg #[.bool n2, u2]] w (NumPost w (z1 + z2)) := by
 have HNE := hid (show n1 ≠ n2 by intro e; subst e; simp at hne)
 have HC0 := hid hc
 have HLE := hid (len_le10 hs1.canon hs2.canon (Int.le_of_lt hc))
 clear hc
 have HR1 := hid hr1
 have HR2 := hid hr2
 obtain ⟨p1, c1, rfl, _, _, _⟩ := rb_form hr1
 obtain ⟨p2, c2, rfl, _, _, _⟩ := rb_form hr2
 have HS1 := hid hs1
 have HS2 := hid hs2
 clear hr1 hr2 hs1 hs2
 go_enter Tryz.func122, Tryz.ntmps122
 go_wp2_with fail
 generalize hw2 : World.alloc (World.alloc (World.alloc w _) _) _ = w2
 have hbx : Bx3 w2 w.heap.size n1 (.slice p1 xs.length c1) n2 (.slice p2 ys.length c2) := by
   rw [← hw2]
   exact ⟨acl (acl (by simp) _) _, acl (acl (by simp) _) _, acl (by simp) _, acl (by simp) _, third_cell _ _ _ _ _ 0, third_cell _ _ _ _ _ 1, third_fr _ _ _ _ _ 0, third_fr _ _ _ _ _ 1, by simp⟩
 have HB2 := hid (show Below w.heap.size w w2 by rw [← hw2]; exact (((Below.refl _ _).alloc (Nat.le_refl _) _).alloc (by simp) _).alloc (by simp; omega) _)
 clear hw2
 have HX2 := hid hbx
 have s0 := hbx.x0
 have s1 := hbx.x1
 have s2 := hbx.y0
 have s3 := hbx.y1
 have r0 := hbx.r0
 have r1 := hbx.r1
 have f0 := hbx.f0
 have f1 := hbx.f1
 have hlt := hbx.lt
 clear hbx
 refine (sizes_any _ _ xs ys w2 (HR1.out.keep HB2.out) (HR2.out.keep HB2.out) HS1.out.canon HS2.out.canon).mono ?_
 rintro e w3 ⟨rfl, hb3⟩
 have HX3 := hid (HX2.out.keep hb3)
 have HB3 := hid (HB2.out.trans (hb3.mono HB2.out.size))
 clear s0 s1 s2 s3 r0 r1 f0 f1 hlt hb3 HX2 HB2
 have s0 := HX3.out.x0
 have s1 := HX3.out.x1
 have s2 := HX3.out.y0
 have s3 := HX3.out.y1
 have r0 := HX3.out.r0
 have r1 := HX3.out.r1
 have f0 := HX3.out.f0
 have f1 := HX3.out.f1
 have hlt := HX3.out.lt
 rw [cmpI_lt HC0.out]
 have HC := hid (fun (wx : World) (hx : Below w.heap.size w wx) => minus_any _ _ ys xs wx (HR2.out.keep hx) (HR1.out.keep hx) HS2.out.canon.1 HS1.out.canon.1 hl2 HLE.out (Int.le_of_lt HC0.out))
 go_wp2_with fail
 go_region_held3 (fun w' => w'.cell? ⟨w.heap.size + 1, 0, none⟩ = some (.bool n2) ∧ w'.cell? ⟨w.heap.size, 1, none⟩ = some (.slice p1 xs.length c1) ∧ w'.cell? ⟨w.heap.size + 1, 1, none⟩ = some (.slice p2 ys.length c2))
   ((repeat' apply And.intro) <;> (first | assumption | exact cell_set2 (by omega) (by assumption) _ _ | go_keep))
   ((go_at_call 157; refine (HC.out _ (by first | exact HB3.out | exact HB3.out.drew)).mono ?_; rintro e w6 ⟨u, os, rfl, hM, hol, hcan, hv, hb5⟩; have hq5 : Below w3.heap.size w3 w6 := ⟨hb5.os, hb5.tape, hb5.output, hb5.size, hb5.block⟩; obtain ⟨p, c, rfl⟩ := Mine.form hM; have hx6 := HX3.out.keep hq5; have k60 := hx6.y0; have k61 := hx6.x1; have k62 := hx6.y1; have m0 := hx6.r0; have m1 := hx6.r1; have mf0 := hx6.f0; have mf1 := hx6.f1; have HM := hid (show Mine .u8 U8 w6 w3.heap.size _ os from hM); have HOL := hid hol; have HCA := hid hcan; have HV5 := hid hv; have HB6 := hid (HB3.out.trans (hq5.mono HB3.out.size)); clear hM hol hcan hv hq5 hb5 hx6))
 go_wp2_with fail
 have zz := two_setW (x0 := .bool n2) (x1 := .slice p os.length c) m0 m1
 refine bodyPost_ret (v := .agg #[.bool n2, .slice p os.length c]) (by simp [results, Tryz.results122, go_sem, zz.1, zz.2]) rfl ⟨n2, _, os, rfl, (HM.out.set2 hlt _ _).rb HOL.out, Sgn.made (by decide) HCA.out HV5.out (fun _ => by have := HC0.out; omega) (by rw [sg_sub n2 n1 _ _ (Ne.symm HNE.out), ← HS1.out.eq, ← HS2.out.eq, Int.add_comm]), (HB6.out.setCell (by simp; omega) _).setCell (by simp; omega) _⟩
theorem rp_ge (n1 : Bool) (u1 : Value) (xs : List Int) (z1 : Int) (n2 : Bool) (u2 : Value) (ys : List Int) (z2 : Int) (w : World) (hr1 : Rb w u1 xs) (hr2 : Rb w u2 ys) (hs1 : Sgn 10 n1 xs z1) (hs2 : Sgn 10 n2 ys z2) (hl1 : xs.length ≤ 100000) (hl2 : ys.length ≤ 100000) (hne : (n1 == n2) = false) (hc : val 10 ys ≤ val 10 xs) :
   Calls Tryz.prog 122 #[.agg #[.bool n1, u1], .agg #[.bool n2, u2]] w (NumPost w (z1 + z2)) := by
 have HNE := hid (show n1 ≠ n2 by intro e; subst e; simp at hne)
 have HC0 := hid hc
 have HLE := hid (len_le10 hs2.canon hs1.canon hc)
 clear hc
 have HR1 := hid hr1
 have HR2 := hid hr2
 obtain ⟨p1, c1, rfl, _, _, _⟩ := rb_form hr1
 obtain ⟨p2, c2, rfl, _, _, _⟩ := rb_form hr2
 have HS1 := hid hs1
 have HS2 := hid hs2
 clear hr1 hr2 hs1 hs2
 go_enter Tryz.func122, Tryz.ntmps122
 go_wp2_with fail
 generalize hw2 : World.alloc (World.alloc (World.alloc w _) _) _ = w2
 have hbx : Bx3 w2 w.heap.size n1 (.slice p1 xs.length c1) n2 (.slice p2 ys.length c2) := by
   rw [← hw2]
   exact ⟨acl (acl (by simp) _) _, acl (acl (by simp) _) _, acl (by simp) _, acl (by simp) _, third_cell _ _ _ _ _ 0, third_cell _ _ _ _ _ 1, third_fr _ _ _ _ _ 0, third_fr _ _ _ _ _ 1, by simp⟩
 have HB2 := hid (show Below w.heap.size w w2 by rw [← hw2]; exact (((Below.refl _ _).alloc (Nat.le_refl _) _).alloc (by simp) _).alloc (by simp; omega) _)
 clear hw2
 have HX2 := hid hbx
 have s0 := hbx.x0
 have s1 := hbx.x1
 have s2 := hbx.y0
 have s3 := hbx.y1
 have r0 := hbx.r0
 have r1 := hbx.r1
 have f0 := hbx.f0
 have f1 := hbx.f1
 have hlt := hbx.lt
 clear hbx
 refine (sizes_any _ _ xs ys w2 (HR1.out.keep HB2.out) (HR2.out.keep HB2.out) HS1.out.canon HS2.out.canon).mono ?_
 rintro e w3 ⟨rfl, hb3⟩
 have HX3 := hid (HX2.out.keep hb3)
 have HB3 := hid (HB2.out.trans (hb3.mono HB2.out.size))
 clear s0 s1 s2 s3 r0 r1 f0 f1 hlt hb3 HX2 HB2
 have s0 := HX3.out.x0
 have s1 := HX3.out.x1
 have s2 := HX3.out.y0
 have s3 := HX3.out.y1
 have r0 := HX3.out.r0
 have r1 := HX3.out.r1
 have f0 := HX3.out.f0
 have f1 := HX3.out.f1
 have hlt := HX3.out.lt
 have hc0 : ¬ cmpI (val 10 xs) (val 10 ys) < 0 := by have := HC0.out; unfold cmpI; rw [if_neg (by omega)]; split <;> omega
 generalize cmpI (val 10 xs) (val 10 ys) = cc at hc0
 go_wp2_with fail
 refine (minus_any _ _ xs ys w3 (HR1.out.keep HB3.out) (HR2.out.keep HB3.out) HS1.out.canon.1 HS2.out.canon.1 hl1 HLE.out HC0.out).mono ?_
 rintro e w6 ⟨u, os, rfl, hM, hol, hcan, hv, hb6⟩
 obtain ⟨p, c, rfl⟩ := Mine.form hM
 have hx6 := HX3.out.keep hb6
 have k0 := hx6.x0
 have m0 := hx6.r0
 have m1 := hx6.r1
 have mf0 := hx6.f0
 have mf1 := hx6.f1
 have HM := hid hM
 have HOL := hid hol
 have HCA := hid hcan
 have HV5 := hid hv
 have HB6 := hid (HB3.out.trans (hb6.mono HB3.out.size))
 clear hM hol hcan hv hb6 hx6 s0 s1 s2 s3 r0 r1 f0 f1
 have FIN : ∀ b : Bool, b = (n1 && decide (0 < os.length)) → NumPost w (z1 + z2) (.returned (.agg #[.bool b, .slice p os.length c])) ((w6.setCell ⟨w.heap.size + 1 + 1, 0, none⟩ (.bool b)).setCell ⟨w.heap.size + 1 + 1, 1, none⟩ (.slice p os.length c)) := fun b hb => by
   refine ⟨b, _, os, rfl, (HM.out.set2 hlt _ _).rb HOL.out, ?_, (HB6.out.setCell (by simp; omega) _).setCell (by simp; omega) _⟩
   have hz : sg n1 (val 10 os) = z1 + z2 := by rw [HV5.out, sg_sub n1 n2 _ _ HNE.out, ← HS1.out.eq, ← HS2.out.eq]
   refine ⟨HCA.out, fun e => ?_, ?_⟩
   · rw [hb] at e; simp at e; cases os with
     | nil => exact absurd e.2 (by simp)
     | cons d r => simp
   · rw [← hz, hb]
     by_cases hl : 0 < os.length
     · simp [hl]
     · obtain rfl := List.length_eq_zero_iff.1 (by omega : os.length = 0)
       cases n1 <;> simp [sg, val]
 have HF := hid FIN
 clear FIN
 cases n1 with
 | false =>
   go_wp2_with fail
   have zz := two_setW (x0 := .bool false) (x1 := .slice p os.length c) m0 m1
   exact bodyPost_ret (v := .agg #[.bool false, .slice p os.length c]) (by simp [results, Tryz.results122, go_sem, zz.1, zz.2]) rfl (HF.out false rfl)
 | true =>
   by_cases hl : 0 < os.length
   · have hlz : (0 : Int) < (os.length : Int) := by omega
     have hd : decide ((0 : Int) < (os.length : Int)) = true := by simpa using hl
     have HD := hid (show true = (true && decide (0 < os.length)) by rw [decide_eq_true hl]; rfl)
     go_wp2_with fail
     have zz := two_setW (x0 := .bool true) (x1 := .slice p os.length c) m0 m1
     exact bodyPost_ret (v := .agg #[.bool true, .slice p os.length c]) (by simp [results, Tryz.results122, go_sem, zz.1, zz.2]) rfl (HF.out true HD.out)
   · have hlz : ¬ (0 : Int) < (os.length : Int) := by omega
     have hd : decide ((0 : Int) < (os.length : Int)) = false := by simpa using hl
     have HD := hid (show false = (true && decide (0 < os.length)) by rw [decide_eq_false hl]; rfl)
     go_wp2_with fail
     have zz := two_setW (x0 := .bool false) (x1 := .slice p os.length c) m0 m1
     exact bodyPost_ret (v := .agg #[.bool false, .slice p os.length c]) (by simp [results, Tryz.results122, go_sem, zz.1, zz.2]) rfl (HF.out false HD.out)
theorem refplus_any (n1 : Bool) (u1 : Value) (xs : List Int) (z1 : Int) (n2 : Bool) (u2 : Value) (ys : List Int) (z2 : Int) (w : World) (hr1 : Rb w u1 xs) (hr2 : Rb w u2 ys) (hs1 : Sgn 10 n1 xs z1) (hs2 : Sgn 10 n2 ys z2) (hl1 : xs.length ≤ 100000) (hl2 : ys.length ≤ 100000) :
   Calls Tryz.prog 122 #[.agg #[.bool n1, u1], .agg #[.bool n2, u2]] w (NumPost w (z1 + z2)) := by
 by_cases hn : n1 = n2
 · exact rp_same n1 u1 xs z1 n2 u2 ys z2 w hr1 hr2 hs1 hs2 hl1 hl2 hn
 · have hne : (n1 == n2) = false := by simpa using hn
   by_cases hc : val 10 xs < val 10 ys
   · exact rp_lt n1 u1 xs z1 n2 u2 ys z2 w hr1 hr2 hs1 hs2 hl1 hl2 hne hc
   · exact rp_ge n1 u1 xs z1 n2 u2 ys z2 w hr1 hr2 hs1 hs2 hl1 hl2 hne (by omega)
end
end Go.Proofs.YtlhfemgimieooaaGreatDoor
