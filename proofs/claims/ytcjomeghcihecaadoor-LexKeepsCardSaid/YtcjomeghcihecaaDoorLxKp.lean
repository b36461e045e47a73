/- Layer 4: the law LexKeeps. -/
import Derived.Test.YtcjomeghcihecaaDoorLxSm
import Derived.Test.YtcjomeghcihecaaDoorLxBk
import Derived.Lib.JoinLaws
namespace Go.Proofs.YtcjomeghcihecaaDoor
open Go Go.ChangeShapes Go.WideShapes Go.ChangeAt Go.RowKit Go.PlainAid Go.Maps
set_option linter.unusedVariables false
set_option linter.unusedSimpArgs false
theorem owns_keep {w w' : World} {B sz n : Nat} {T : TypeId} {v : Value} {xs : List Value} (h : w.ownsRow B T sz v n xs) (hb : Below w.heap.size w w') : w'.ownsRow B T sz v n xs :=
  owns_of h fun g hg => hb.block g (owns_lt h hg).2
theorem owns_grown {w w' : World} {B sz n : Nat} {T : TypeId} {v : Value} {xs : List Value} {row : Option Nat} (h : w.ownsRow B T sz v n xs) (hg : w.grownBy w' row) (hne : ∀ g, v.ownBlock = some g → some g ≠ row) : w'.ownsRow B T sz v n xs :=
  owns_of h fun g hgg => hg.block g (owns_lt h hgg).2 (hne g hgg)
theorem src_own {w : World} {B sz n : Nat} {T : TypeId} {v : Value} {xs : List Value} (h : w.ownsRow B T sz v n xs) : SrcS sz w v n xs := by
  refine ⟨h.1, ?_⟩
  rcases h.2 with ⟨rfl, rfl⟩ | ⟨g, c, cur, rfl, _⟩
  · exact .inl ⟨rfl, rfl⟩
  · exact .inr ⟨_, _, rfl, h.cells rfl⟩
theorem flatT_one : ∀ (ts : List Tk), ∀ u ∈ flatT ts, u.oneCell' = true
  | [], u, hu => by simp [flatT] at hu
  | t :: r, u, hu => by
    simp only [flatT, List.mem_cons] at hu
    rcases hu with rfl | rfl | rfl | hu
    · rfl
    · rfl
    · rfl
    · exact flatT_one r u hu
theorem tks_app {B : Nat} {w : World} {v x : Value} {n : Nat} {xs : List Value} {ts : List Tk} (h : w.ownsRow B 33 3 v n xs) (hs : SrcS 3 w x ts.length (flatT ts)) (hB : B ≤ w.heap.size) (hl : n + ts.length ≤ 1000000) (ty : TypeId) :
    ∃ v' w', (Builtin.append_ #[23, 23] ty #[v, x]).run Tryd.prog w = .ok v' w' ∧ ApdS 3 w w' B 33 v v' (n + ts.length) (xs ++ flatT ts) := by
  exact run_appS (P := Tryd.prog) (w := w) (base := B) (ty := ty) (t := 23) (v := v) (x := x) Tryd.underlying23 infoTok rfl (by decide) h hs (flatT_one ts) (by unfold maxLen; omega) (by omega) hB
theorem room_take {l : Bs} {w : World} {p : Option Addr} {n k : Nat} (h : R8 w (.slice p n k) (l ++ [33, 33])) (hn : l.length ≤ n) : R8 w (.slice p l.length k) l := by
  have h1 := Rb.take h l.length hn
  have e : (ints8 (l ++ [33, 33])).take l.length = ints8 l := by unfold ints8; rw [List.map_append, List.take_append_of_le_length (by simp), List.take_of_length_le (by simp)]
  rw [e] at h1
  exact h1
def mixB (l : Bs) (i : Nat) : Bs := List.replicate i 35 ++ l.drop i ++ [33, 33]
theorem mix_zero (l : Bs) : mixB l 0 = l ++ [33, 33] := rfl
theorem mix_len {l : Bs} {i : Nat} (h : i ≤ l.length) : (mixB l i).length = l.length + 2 := by unfold mixB; simp; omega
theorem mix_at {l : Bs} {i : Nat} {x : UInt8} (h : l[i]? = some x) : (c8 (mixB l i))[i]? = some (.int .u8 (x.toNat : Int)) := by
  have hi := (List.getElem?_eq_some_iff.1 h).1
  unfold mixB c8 ints8
  rw [List.getElem?_map, List.getElem?_map, List.append_assoc, List.getElem?_append_right (by simp), List.length_replicate, Nat.sub_self, List.getElem?_append_left (by rw [List.length_drop]; omega), List.getElem?_drop, Nat.add_zero, h]
  rfl
theorem mix_set {l : Bs} {i : Nat} (h : i < l.length) : (c8 (mixB l i)).set i (.int .u8 35) = c8 (mixB l (i + 1)) := by
  have e1 : c8 (mixB l i) = c8 (List.replicate i 35) ++ Value.int .u8 ((l[i]).toNat : Int) :: c8 (l.drop (i + 1) ++ [33, 33]) := by
    unfold mixB
    rw [List.append_assoc, c8_app, List.drop_eq_getElem_cons h]
    rfl
  have e2 : c8 (mixB l (i + 1)) = c8 (List.replicate i 35) ++ Value.int .u8 35 :: c8 (l.drop (i + 1) ++ [33, 33]) := by
    unfold mixB
    rw [List.replicate_succ', List.append_assoc, List.append_assoc, c8_app]
    rfl
  have e3 : (c8 (List.replicate i 35)).length = i := by rw [c8_len, List.length_replicate]
  rw [e1, e2, List.set_append_right _ _ (by omega), e3, Nat.sub_self]
  rfl
theorem mix_end {l : Bs} {j : Nat} (h1 : l.length ≤ j) (h2 : j < l.length + 2) : (c8 (mixB l l.length))[j]? = some (.int .u8 33) := by
  unfold mixB c8 ints8
  rw [List.drop_of_length_le (Nat.le_refl _), List.append_nil, List.getElem?_map, List.getElem?_map, List.getElem?_append_right (by simpa using h1), List.length_replicate]
  have : j - l.length = 0 ∨ j - l.length = 1 := by omega
  rcases this with e | e <;> rw [e] <;> rfl
theorem own_drewN {w : World} {B sz n : Nat} {T : TypeId} {v : Value} {xs : List Value} (h : w.ownsRow B T sz v n xs) (q : Nat) : (w.drewN q).ownsRow B T sz v n xs := owns_keep h (below_drewN _ _)
theorem own_some {w : World} {B sz n : Nat} {T : TypeId} {v : Value} {xs : List Value} (h : w.ownsRow B T sz v n xs) (hn : 0 < n) : ∃ g cap, v = .slice (some ⟨g, 0, none⟩) n cap ∧ B ≤ g ∧ g < w.heap.size := by
  rcases h.2 with ⟨_, h0⟩ | ⟨g, cap, cur, hv, hb, hg, _⟩
  · omega
  · exact ⟨g, cap, hv, hb, (Array.getElem?_eq_some_iff.1 hg).1⟩
theorem room_r8 {B : Nat} {w : World} {v : Value} {l : Bs} (h : w.ownsRow B 5 1 v (l.length + 2) (c8 (mixB l 0))) (hl : l.length ≤ 140737488351232) : R8 w v (l ++ [33, 33]) := by
  have hn : (l ++ [33, 33] : Bs).length = l.length + 2 := by simp
  have h' : O8 B w v (l ++ [33, 33]) := by unfold O8; rw [hn]; exact h
  exact h'.r8 (by rw [hn]; omega)
theorem o8_row {B : Nat} {w : World} {v : Value} {l : Bs} (h : O8 B w v (l ++ [33, 33])) : ∃ g k, v = .slice (some ⟨g, 0, none⟩) (l.length + 2) k ∧ B ≤ g ∧ g < w.heap.size ∧ l.length + 2 ≤ k ∧ w.ownsRow B 5 1 (.slice (some ⟨g, 0, none⟩) (l.length + 2) k) (l.length + 2) (c8 (mixB l 0)) := by
  have hn : (l ++ [33, 33] : Bs).length = l.length + 2 := by simp
  have h' := h
  unfold O8 at h'
  rw [hn] at h'
  rcases h.2 with ⟨_, h2⟩ | ⟨g, c, cur, rfl, hg, r1, r2, _⟩
  · simp at h2
  · rw [hn] at h' r2 ⊢
    exact ⟨g, c, rfl, hg, (Array.getElem?_eq_some_iff.1 r1).1, r2, h'⟩
set_option maxRecDepth 100000 in
set_option maxHeartbeats 8000000 in
theorem law_keeps (v1 v2 : Value) (l m : Bs) (w : World) (hr1 : R8 w v1 l) (hr2 : R8 w v2 m) (hl : l.length ≤ 140737488351232) (hm : m.length ≤ 140737488351232) (htab : Lib.TabIs Tryd.prog w "strings.asciiSpace" .u8 Lib.asciiSpaceTab) :
    Calls Tryd.prog 8 #[v1, v2] w fun e w' => e = .returned (.bool true) ∧ Below w.heap.size w w' := by
  have HR1 := Lib.hid hr1
  have HR2 := Lib.hid hr2
  have HTAB := Lib.hid htab
  obtain ⟨p1, c1, rfl, hat⟩ := r8_at hr1
  obtain ⟨p2, c2, rfl⟩ := r8_form hr2
  have HAT := Lib.hid hat
  clear hr1 hr2 htab hat
  go_enter Tryd.func8, Tryd.ntmps8
  go_wp2_with fail
  refine (known04 w HTAB.out).mono ?_
  rintro e w1 ⟨rfl, hb1⟩
  have HB1 := Lib.hid hb1
  have hwB : w.heap.size ≤ w1.heap.size := hb1.size
  clear hb1
  obtain ⟨N3, hN3⟩ : ∃ x : Nat, x = l.length + 3 := ⟨_, rfl⟩
  have w1x : IntKind.i64.wrap ((l.length : Int) + 3) = (N3 : Int) := by
    have e : (l.length : Int) + 3 = (N3 : Int) := by omega
    rw [e]; exact i64_in (by omega) (by omega)
  have hN0 : (0 : Int) ≤ (N3 : Int) := by omega
  have hN9 : N3 ≤ 140737488351235 := by omega
  clear hN3
  have hmk : ∀ wx : World, (Instr.makeSlice 22 (.int .i64 0) (.int .i64 (N3 : Int))).run Tryd.prog wx = .ok (.slice (some ⟨wx.heap.size, 0, none⟩) 0 N3) (wx.alloc (.cells (madeCells #[.int .u8 0] N3) 5)) := fun wx => run_make_room (P := Tryd.prog) 22 5 (.int .u8 0) 1 Tryd.underlying22 infoU8L rfl .i64 .i64 N3 (by omega) (by omega) wx
  obtain ⟨B, hBq⟩ : ∃ b, w1.heap.size = b := ⟨_, rfl⟩
  have hB1 : B ≤ w1.heap.size := by omega
  have hB2 : w1.heap.size ≤ B := by omega
  have HWK := Lib.hid (fun (wx : World) (h : Below B w1 wx) => HB1.out.trans (h.mono (by rw [← hBq]; exact HB1.out.size)))
  have hwB2 : w.heap.size ≤ B := by omega
  clear hBq
  have HBA := Lib.hid (show Below B w1 (w1.alloc (.cells (madeCells #[.int .u8 0] N3) 5)) from (Below.refl _ _).alloc hB1 _)
  have HM0 := Lib.hid (show O8 B (w1.alloc (.cells (madeCells #[.int .u8 0] N3) 5)) (.slice (some ⟨w1.heap.size, 0, none⟩) 0 N3) [] from World.ownsRow_made w1 _ N3 hB1 (by unfold maxLen; omega) (by simp [size_madeCells]))
  have HAQ := Lib.hid (o8_app HM0.out (HR1.out.keep (HWK.out _ HBA.out)) (by simp; omega) (by simp only [List.length_nil]; omega))
  rw [List.nil_append] at HAQ
  go_upto_region 4 with (first
    | (at_builtin; refine wpList_appR rfl (.tmp 21) (.tmp 22) rfl rfl rfl (by exact HAQ.out _) ?_; rintro v8 w2 ⟨ho2, hb2⟩; have HB2 := Lib.hid (HBA.out.trans hb2); have hw2s : B ≤ w2.heap.size := (by have h1 := HB2.out.size; omega); have HAR := Lib.hid (o8_snoc2 ho2 hw2s (by omega) 33 33); obtain ⟨p8, k8, rfl⟩ := ho2.form; clear ho2 hb2 HAQ HBA HM0)
    | (at_builtin; refine wpList_appR rfl (.tmp 23) (.tmp 24) rfl rfl rfl (by exact HAR.out _) ?_; rintro v8 w4 ⟨ho4, hb4, _⟩; obtain ⟨gR, kR, rfl, hgR1, hgR2, hkR, ho4'⟩ := o8_row ho4; have HR4 := Lib.hid (room_take (n := l.length + 2) (room_r8 ho4' (by omega)) (by omega)); have HO4 := Lib.hid ho4'; have HB4 := Lib.hid (HB2.out.trans hb4); clear ho4' ho4 hb4 HAR)
    | fail)
  have hw4s : B ≤ w4.heap.size := by have h1 := HB4.out.size; omega
  have hnk : (l.length : Int) ≤ (kR : Int) := by omega
  have HL1 := Lib.hid (lex_own _ l w4 HR4.out (tabS_keep HTAB.out (HWK.out _ HB4.out)))
  go_wp2_with fail
  refine HL1.out.mono ?_
  rintro e w5 ⟨v6, la, ea, rfl, howna, hb5⟩
  have HB45 := Lib.hid hb5
  have HB5 := Lib.hid (HB4.out.trans (hb5.mono hw4s))
  have hw45 := hb5.size
  obtain ⟨ts, hts⟩ : ∃ ts, tksD l = ts := ⟨_, rfl⟩
  have htl := tksD_len l
  rw [hts] at howna htl
  obtain ⟨pa, ka, rfl⟩ := owns_form howna
  have HA5 := Lib.hid howna
  have HTS := Lib.hid hts
  clear howna hb5 hts HL1
  have hw5s : B ≤ w5.heap.size := by omega
  have HBX := Lib.hid (show Below w5.heap.size w5 (w5.alloc (.cells #[] 33)) from (Below.refl _ _).alloc (Nat.le_refl _) _)
  have HAW := Lib.hid (tks_app (B := w5.heap.size) (v := .slice (some ⟨w5.heap.size, 0, none⟩) 0 0) (n := 0) (xs := []) (ts := ts) (World.ownsRow_made w5 #[] 0 (Nat.le_refl _) (Nat.zero_le _) rfl) (src_own (owns_keep HA5.out HBX.out)) (by simp) (by omega))
  go_upto_region 6 with (first
    | (at_builtin; (refine wpList_appR rfl (.tmp 35) (.tmp 36) rfl rfl rfl (by exact HAW.out _) ?_; rintro v9 w6 hap; have HB56 := Lib.hid (HBX.out.trans (hap.below (by simp) fun g hg => (by cases hg; exact Nat.le_refl _))); have how := hap.own; rw [List.nil_append, Nat.zero_add] at how; obtain ⟨pw, kw, rfl⟩ := owns_form how; have HW6 := Lib.hid how; clear hap how HAW HBX))
    | fail)
  have hw56 := HB56.out.size
  have hw6s : B ≤ w6.heap.size := by omega
  have HB6 := Lib.hid (HB5.out.trans (HB56.out.mono hw5s))
  have HL2 := Lib.hid (lex_own _ m w6 (HR2.out.keep (HWK.out _ HB6.out)) (tabS_keep HTAB.out (HWK.out _ HB6.out)))
  go_wp2_with fail
  refine HL2.out.mono ?_
  rintro e w7 ⟨v7, lb, eb, rfl, _, hb7⟩
  have HB67 := Lib.hid hb7
  have HB7 := Lib.hid (HB6.out.trans (hb7.mono hw6s))
  have hw67 := hb7.size
  have hw7s : B ≤ w7.heap.size := by omega
  clear hb7 HL2
  have HB47 := Lib.hid ((HB45.out.trans (HB56.out.mono hw45)).trans (HB67.out.mono (Nat.le_trans hw45 hw56)))
  have HR7 := Lib.hid (room_take (n := l.length + 2) (room_r8 (owns_keep HO4.out HB47.out) (by omega)) (by omega))
  have HL3 := Lib.hid (lex_own _ l w7 HR7.out (tabS_keep HTAB.out (HWK.out _ HB7.out)))
  go_wp2_with fail
  refine HL3.out.mono ?_
  rintro e w8 ⟨v8, lb2, eb2, rfl, hownb, hb8⟩
  rw [HTS.out] at hownb
  have hw78 := hb8.size
  have HB8 := Lib.hid (HB7.out.trans (hb8.mono hw7s))
  have HO8 := Lib.hid (owns_keep HO4.out (HB47.out.trans (hb8.mono (Nat.le_trans hw45 (Nat.le_trans hw56 hw67)))))
  have HA8 := Lib.hid (owns_keep HA5.out ((HB56.out.trans (HB67.out.mono hw56)).trans (hb8.mono (Nat.le_trans hw56 hw67))))
  have HW8 := Lib.hid (owns_keep HW6.out (HB67.out.trans (hb8.mono hw67)))
  obtain ⟨pb, kb, rfl⟩ := owns_form hownb
  have HBB := Lib.hid hownb
  have hl9 : (l.length : Int) ≤ 140737488351232 := by omega
  clear hownb hb8 HL3
  go_wp2_with fail
  go_loopw [13] (fun s13 wr => ∃ i : Nat, s13 = .int .i64 i ∧ i ≤ l.length ∧ wr.ownsRow B 5 1 (.slice (some ⟨gR, 0, none⟩) (l.length + 2) kR) (l.length + 2) (c8 (mixB l i)) ∧ w8.grownBy wr (some gR)) (fun s13 wr => l.length - (intOf s13).toNat)
  case atStart => exact ⟨0, by go_num, Nat.zero_le _, HO8.out, World.grownBy.refl _ _⟩
  case round =>
    obtain ⟨i, rfl, hi, ho, hg⟩ := hrel
    have HO := Lib.hid ho
    have HG := Lib.hid hg
    have hrs := hg.size
    clear ho hg
    by_cases hlt : i < l.length
    · have hz1 : (i : Int) < (l.length : Int) := by omega
      have hz2 : (i : Int) < (l.length : Int) + 2 := by omega
      have w2x : IntKind.i64.wrap ((i : Int) + 1) = (i : Int) + 1 := i64_in (by omega) (by omega)
      obtain ⟨b, off, rfl, hcell⟩ := HAT.out (by omega)
      obtain ⟨x, hx, hc⟩ := hcell i hlt
      have hbl : b < w.heap.size := World.block_lt_of_cell? w _ hc
      have hc8 := HG.out.cell (below_cell (HWK.out _ HB8.out) hc) (fun e => by have h9 : b = gR := Option.some.inj e; omega)
      have hr0 := HO.out.cellAt i (by omega)
      rw [mix_at hx] at hr0
      have hf0 := HO.out.frozenAt i
      have HS := Lib.hid (fun (q : Nat) => (own_drewN HO.out q).stored i (.int .u8 35))
      rw [mix_set hlt] at HS
      obtain ⟨xn, hxn⟩ : ∃ y : Int, (x.toNat : Int) = y := ⟨_, rfl⟩
      rw [hxn] at hc8 hr0
      clear hx hc hcell hxn
      go_wp2_with fail
      go_quiet (fail)
      go_wp2_with fail
      go_roundw
      case rel => exact ⟨i + 1, by go_num, hlt, (HS.out _).1, grown_trans HG.out (grown_trans (grown_drewN _ _ _) (HS.out _).2)⟩
      case measure => simp [intOf]; omega
    · obtain rfl : i = l.length := by omega
      have hz1 : ¬ (l.length : Int) < (l.length : Int) := by omega
      have hr0 := HO.out.cellAt l.length (by omega)
      rw [mix_end (Nat.le_refl _) (by omega)] at hr0
      have hr1 := HO.out.cellAt (l.length + 1) (by omega)
      rw [mix_end (by omega) (by omega)] at hr1
      obtain ⟨n1, hn1⟩ : ∃ x : Nat, l.length + 1 = x := ⟨_, rfl⟩
      rw [hn1] at hr1
      have w2x : IntKind.i64.wrap ((l.length : Int) + 1) = (n1 : Int) := by
        have e : (l.length : Int) + 1 = (n1 : Int) := by omega
        rw [e]; exact i64_in (by omega) (by omega)
      have hz2 : (l.length : Int) < (l.length : Int) + 2 := by omega
      have hz3 : (n1 : Int) < (l.length : Int) + 2 := by omega
      have HA9 := Lib.hid (owns_grown HA8.out HG.out (fun g hgg e => by have h9 : g = gR := Option.some.inj e; have := owns_lt HA5.out hgg; omega))
      have HW9 := Lib.hid (owns_grown HW8.out HG.out (fun g hgg e => by have h9 : g = gR := Option.some.inj e; have := owns_lt HW6.out hgg; omega))
      have HB9 := Lib.hid (owns_grown HBB.out HG.out (fun g hgg e => by have h9 : g = gR := Option.some.inj e; have := owns_lt HBB.out hgg; omega))
      have HGB := Lib.hid (HB8.out.trans (grown_below HG.out (fun g hgg => by have h9 : gR = g := Option.some.inj hgg; omega) (show B ≤ w8.heap.size by omega)))
      have htl2 : ts.length ≤ 9223372036854775807 := by omega
      have HS1 := Lib.hid (same_any _ _ ts wr (Rt.of HA9.out) (Rt.of HW9.out) htl2)
      clear hn1
      go_wp2_with fail
      refine HS1.out.mono ?_
      rintro e w9 ⟨rfl, hb9⟩
      have hw9 := hb9.size
      have HA10 := Lib.hid (owns_keep HA9.out hb9)
      have HW10 := Lib.hid (owns_keep HW9.out hb9)
      have HB10 := Lib.hid (owns_keep HB9.out hb9)
      have HGC := Lib.hid (HGB.out.trans (hb9.mono (show B ≤ wr.heap.size by omega)))
      have HS2 := Lib.hid (same_any _ _ ts w9 (Rt.of HB10.out) (Rt.of HW10.out) htl2)
      clear hb9 HS1
      go_wp2_with fail
      refine HS2.out.mono ?_
      rintro e w10 ⟨rfl, hb10⟩
      have hw10 := hb10.size
      have HA11 := Lib.hid (owns_keep HA10.out hb10)
      have HW11 := Lib.hid (owns_keep HW10.out hb10)
      have HB11 := Lib.hid (owns_keep HB10.out hb10)
      have HGD := Lib.hid (HGC.out.trans (hb10.mono (show B ≤ w9.heap.size by omega)))
      clear hb10 HS2 hr0 hr1 w2x hz2 hz3
      go_wp2_with fail
      obtain ⟨wA, hwA⟩ : ∃ wA : World, wA = wr := ⟨_, rfl⟩
      rw [← hwA] at hrs hw9
      clear HO HG HA9 HW9 HB9 HGB
      go_loopw [14] (fun s14 wr => ∃ (i : Nat) (xs : List Value), s14 = .int .i64 i ∧ i ≤ ts.length ∧ wr.ownsRow w4.heap.size 33 3 (.slice pa ts.length ka) ts.length xs ∧ w10.grownBy wr (Value.slice pa ts.length ka).ownBlock) (fun s14 wr => ts.length - (intOf s14).toNat)
      case atStart => exact ⟨0, _, by go_num, Nat.zero_le _, HA11.out, World.grownBy.refl _ _⟩
      case round =>
        obtain ⟨i, xs, rfl, hi, ho, hg⟩ := hrel
        have HO := Lib.hid ho
        have HG := Lib.hid hg
        have hrs2 := hg.size
        clear ho hg
        by_cases hlt2 : i < ts.length
        · have hz1 : (i : Int) < (ts.length : Int) := by omega
          have w2x : IntKind.i64.wrap ((i : Int) + 1) = (i : Int) + 1 := i64_in (by omega) (by omega)
          obtain ⟨ga, cap, hv, hga1, hga2⟩ := own_some HO.out (by omega)
          injection hv with hv1 hv2 hv3
          subst hv1
          subst hv3
          have hxl := HO.out.1
          have hr0 := HO.out.cellAt (i * 3) (by omega)
          have hr1 := HO.out.cellAt (i * 3 + 1) (by omega)
          have hr2 := HO.out.cellAt (i * 3 + 2) (by omega)
          rw [List.getElem?_eq_getElem (by omega)] at hr0 hr1 hr2
          obtain ⟨x0, hx0⟩ : ∃ x, xs[i * 3] = x := ⟨_, rfl⟩
          obtain ⟨x1, hx1⟩ : ∃ x, xs[i * 3 + 1] = x := ⟨_, rfl⟩
          obtain ⟨x2, hx2⟩ : ∃ x, xs[i * 3 + 2] = x := ⟨_, rfl⟩
          rw [hx0] at hr0
          rw [hx1] at hr1
          rw [hx2] at hr2
          have hf0 := HO.out.frozenAt (i * 3)
          have hf1 := HO.out.frozenAt (i * 3 + 1)
          have hf2 := HO.out.frozenAt (i * 3 + 2)
          have HS := Lib.hid (own_set3 HO.out (i * 3) (.int .i64 99) (.int .i64 0) (.string ⟨#[]⟩))
          clear hx0 hx1 hx2 hxl
          go_wp2_with fail
          go_roundw
          case rel => obtain ⟨xs', h1, h2⟩ := HS.out; exact ⟨i + 1, xs', by go_num, hlt2, h1, grown_trans HG.out h2⟩
          case measure => simp [intOf]; omega
        · obtain rfl : i = ts.length := by omega
          have hz1 : ¬ (ts.length : Int) < (ts.length : Int) := by omega
          have HAB := Lib.hid (fun (g : Nat) (hg : (Value.slice pa ts.length ka).ownBlock = some g) => owns_lt HA5.out hg)
          have HW12 := Lib.hid (owns_grown HW11.out HG.out (fun g hgg e => by have h1 := owns_lt HW6.out hgg; have h2 := HAB.out g e.symm; omega))
          have HB12 := Lib.hid (owns_grown HB11.out HG.out (fun g hgg e => by have h1 := owns_lt HBB.out hgg; have h2 := HAB.out g e.symm; omega))
          have HGE := Lib.hid (HGD.out.trans (grown_below HG.out (fun g hgg => by have h2 := HAB.out g hgg; omega) (show B ≤ w10.heap.size by omega)))
          obtain ⟨WN, hWN⟩ : ∃ W, wr.alloc (.cells #[.int .i64 98, .int .i64 0, .string ⟨#[]⟩, .int .i64 98, .int .i64 0, .string ⟨#[]⟩] 33) = W := ⟨_, rfl⟩
          have HWN := Lib.hid (show Below wr.heap.size wr WN by rw [← hWN]; exact (Below.refl _ _).alloc (Nat.le_refl _) _)
          have hsrc : SrcS 3 WN (.slice (some ⟨wr.heap.size, 0, none⟩) 2 2) 2 (flatT [⟨98, 0, []⟩, ⟨98, 0, []⟩]) := by
            rw [← hWN]
            exact srcS_top (m := 2) (cs := #[.int .i64 98, .int .i64 0, .string ⟨#[]⟩, .int .i64 98, .int .i64 0, .string ⟨#[]⟩]) rfl rfl
          have HAG := Lib.hid (tks_app (ts := [⟨98, 0, []⟩, ⟨98, 0, []⟩]) (owns_keep HO.out HWN.out) hsrc (show w4.heap.size ≤ WN.heap.size by have := HWN.out.size; omega) (by simp only [List.length_cons, List.length_nil]; omega))
          have w2x : IntKind.i64.wrap ((ts.length : Int) + 2) = (ts.length : Int) + 2 := i64_in (by omega) (by omega)
          clear hsrc
          go_upto_region 21 with (first
            | (at_builtin; ((try rw [hWN]); refine wpList_appR rfl (.tmp 104) (.tmp 107) rfl rfl rfl (by exact HAG.out _) ?_; rintro v15 w12 hap; have HB13 := Lib.hid (owns_grown (owns_keep HB12.out HWN.out) hap.grown (fun g hgg e => by have h1 := owns_lt HBB.out hgg; have h2 := HAB.out g e.symm; omega)); have HW13 := Lib.hid (owns_grown (owns_keep HW12.out HWN.out) hap.grown (fun g hgg e => by have h1 := owns_lt HW6.out hgg; have h2 := HAB.out g e.symm; omega)); have HGF := Lib.hid ((HGE.out.trans (HWN.out.mono (show B ≤ wr.heap.size by omega))).trans (grown_below hap.grown (fun g hgg => by have h2 := HAB.out g hgg; omega) (show B ≤ WN.heap.size by have := HWN.out.size; omega))); obtain ⟨pg, kg, rfl⟩ := owns_form hap.own; clear hap HAG hWN))
            | fail)
          have HS3 := Lib.hid (same_any _ _ ts w12 (Rt.of HB13.out) (Rt.of HW13.out) htl2)
          go_wp2_with fail
          refine HS3.out.mono ?_
          rintro e w13 ⟨rfl, hb13⟩
          have HEND := Lib.hid (HGF.out.trans (hb13.mono (show B ≤ w12.heap.size by have h1 := HGF.out.size; omega)))
          clear hb13 HS3
          go_wp2_with fail
          go_ret
          exact ⟨rfl, HWK.out _ HEND.out⟩
end Go.Proofs.YtcjomeghcihecaaDoor
