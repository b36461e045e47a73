/- Layer 2: whole.Parse, walked. -/
import Derived.Test.YticebchmafipiaaDoorWtC
namespace Go.Proofs.YticebchmafipiaaDoor
open Go Go.ChangeShapes Go.WideShapes Go.ChangeAt Go.RowKit Go.PlainAid Go.Joins
set_option linter.unusedVariables false
set_option linter.unusedSimpArgs false
theorem body_size (s : ByteArray) : (bodyT s).size = s.size - fromT s := by
  unfold bodyT
  rw [list_size, List.length_drop, ← Lib.size_eq]
theorem body_bt (s : ByteArray) {k : Nat} (h : k < (bodyT s).size) : bt (bodyT s) k = bt s (fromT s + k) := by
  have h' := h
  rw [body_size] at h'
  rw [bt_list _ h, bt_list s (by omega)]
  simp [bodyT, List.getElem_drop]
theorem allDig_of {B : ByteArray} (h : ∀ j, j < B.size → 48 ≤ bt B j ∧ bt B j ≤ 57) : AllDig B.data.toList := fun c hc => by
  obtain ⟨j, hj, rfl⟩ := List.mem_iff_getElem.1 hc
  have hj' : j < B.size := by rw [Lib.size_eq]; exact hj
  have := h j hj'
  rw [bt_list B hj'] at this
  omega
theorem be_empty (B : ByteArray) : B.toList.isEmpty = decide (B.size = 0) := by
  obtain ⟨⟨l⟩⟩ := B
  have e : (ByteArray.mk ⟨l⟩).toList = l := by simp
  rw [e]
  cases l <;> simp [ByteArray.size]
/-- What Parse answers. -/
def ParsePost (W : World) (s : ByteArray) (e : Ending) (w' : World) : Prop :=
  ∃ neg u ws f, e = .returned (.tuple #[.agg #[.bool neg, u], .int .i64 f]) ∧ MU w' W.heap.size u ws ∧ TQ B18 s neg ws f ∧ Below W.heap.size W w'
theorem ParsePost.bad {w w' : World} {s : ByteArray} (h : ¬ OkT s) (hb : Below w.heap.size w w') : ParsePost w s (.returned (.tuple #[.agg #[.bool false, .slice none 0 0], .int .i64 4])) w' :=
  ⟨false, _, [], 4, rfl, .inl ⟨rfl, rfl⟩, .inl ⟨h, rfl, rfl, rfl⟩, hb⟩
theorem dw_head {p : UInt8 → Bool} : ∀ {l : List UInt8} {d : UInt8} {r : List UInt8}, l.dropWhile p = d :: r → p d = false
  | c :: l, d, r, h => by
    rw [List.dropWhile_cons] at h
    by_cases hc : p c = true
    · rw [if_pos hc] at h; exact dw_head h
    · rw [if_neg hc] at h
      simp only [List.cons.injEq] at h
      rw [← h.1]; simpa using hc
theorem spell_zeros : ∀ {l : List UInt8}, (∀ c ∈ l, c = 48) → spell l = 0
  | [], _ => rfl
  | c :: r, h => by
    have := h c (by simp)
    subst this
    have hr := spell_zeros (l := r) fun x hx => h x (List.mem_cons_of_mem _ hx)
    simp only [spell, hr]
    simp
/-- The text behind the sign and the leading noughts, as the row of digits. -/
theorem trim_cut {s : ByteArray} (h : DigsFrom s (fromT s)) : CutAt (rdN s (fromT s)) (trimT (bodyT s)).size ∧ spell (trimT (bodyT s)).data.toList = val 10 (rdN s (fromT s)) := by
  obtain ⟨l, hl⟩ : ∃ l, s.data.toList.drop (fromT s) = l := ⟨_, rfl⟩
  have hn : l.length = s.size - fromT s := by rw [← hl, List.length_drop, ← Lib.size_eq]
  have hT : trimT (bodyT s) = ⟨(l.dropWhile (· == 48)).toArray⟩ := by rw [← hl]; rfl
  have hTs : (trimT (bodyT s)).size = (l.dropWhile (· == 48)).length := by rw [hT, list_size]
  have hZD : l.takeWhile (· == 48) ++ l.dropWhile (· == 48) = l := List.takeWhile_append_dropWhile
  have hZ : ∀ c ∈ l.takeWhile (· == 48), c = 48 := fun c hc => by
    have := List.all_eq_true.1 (List.all_takeWhile (p := (· == (48 : UInt8))) (l := l)) c hc
    simpa using this
  have hlen := congrArg List.length hZD
  rw [List.length_append] at hlen
  have hsp : spell (l.dropWhile (· == 48)) = val 10 (rdN s (fromT s)) := by
    rw [rdN_spell s _ _ rfl, hl]
    conv => rhs; rw [← hZD]
    rw [spell_append, spell_zeros hZ, Int.zero_mul, Int.zero_add]
  have hrd : ∀ j, (hj : j < l.length) → (rdN s (fromT s)).getD j 0 = ((l[l.length - 1 - j]'(by omega)).toNat : Int) - 48 := fun j hj => by
    unfold rdN
    rw [List.getD_eq_getElem?_getD, List.getElem?_map, List.getElem?_range (by omega)]
    simp only [Option.map_some, Option.getD_some]
    rw [bt_list s (by omega)]
    have e1 : s.data.toList[s.size - 1 - j]? = l[l.length - 1 - j]? := by
      have key : ∀ i, l[i]? = s.data.toList[fromT s + i]? := fun i => by rw [← hl, List.getElem?_drop]
      rw [key, show fromT s + (l.length - 1 - j) = s.size - 1 - j by omega]
    rw [List.getElem?_eq_getElem (by rw [← Lib.size_eq]; omega), List.getElem?_eq_getElem (by omega)] at e1
    rw [Option.some.inj e1]
  rw [hTs]
  refine ⟨⟨by rw [rdN_len]; omega, fun j hj => ?_, fun hk => ?_⟩, by rw [hT]; exact hsp⟩
  · by_cases hjl : j < l.length
    · rw [hrd j hjl]
      have hi : l.length - 1 - j < (l.takeWhile (· == 48)).length := by omega
      have e : l[l.length - 1 - j]'(by omega) = (l.takeWhile (· == 48))[l.length - 1 - j] := by
        have h2 : (l.takeWhile (· == 48) ++ l.dropWhile (· == 48))[l.length - 1 - j]? = l[l.length - 1 - j]? := by rw [hZD]
        rw [List.getElem?_append_left hi, List.getElem?_eq_getElem hi, List.getElem?_eq_getElem (by omega)] at h2
        exact (Option.some.inj h2).symm
      rw [e, hZ _ (List.getElem_mem hi)]
      rfl
    · rw [List.getD_eq_getElem?_getD, List.getElem?_eq_none (by rw [rdN_len]; omega)]; rfl
  · obtain ⟨d, r, hd⟩ : ∃ d r, l.dropWhile (· == 48) = d :: r := by
      cases hd : l.dropWhile (· == 48) with
      | nil => rw [hd] at hk; simp at hk
      | cons d r => exact ⟨d, r, rfl⟩
    have h1 := dw_head hd
    have h2 : (l.takeWhile (· == 48) ++ l.dropWhile (· == 48))[l.length - 1 - ((l.dropWhile (· == 48)).length - 1)]? = l[l.length - 1 - ((l.dropWhile (· == 48)).length - 1)]? := by rw [hZD]
    rw [List.getElem?_append_right (by omega), show l.length - 1 - ((l.dropWhile (· == 48)).length - 1) - (l.takeWhile (· == 48)).length = 0 by omega, List.getElem?_eq_getElem (by omega), List.getElem?_eq_getElem (l := l) (by omega)] at h2
    rw [hrd _ (by omega), ← Option.some.inj h2]
    have h3 : (l.dropWhile (· == 48))[0]'(by omega) = d := by simp only [hd, List.getElem_cons_zero]
    rw [h3]
    intro e
    have h48 : d.toNat = 48 := by omega
    have : d = 48 := UInt8.toNat_inj.1 (by rw [h48]; rfl)
    rw [this] at h1
    simp at h1
def strLen : Value → Nat
  | .string b => b.size
  | _ => 0
set_option maxRecDepth 100000 in
set_option maxHeartbeats 4000000 in
theorem parse_any (s : ByteArray) (w : World) (hsz : s.size ≤ 140737488355328) : Calls Tryd.prog 7 #[.string s] w (ParsePost w s) := by
  have hbs := body_size s
  have HB0 := Lib.hid (show Below w.heap.size w (w.alloc (.cells #[.bool false, .slice none 0 0] 24)) from (Below.refl _ _).alloc (Nat.le_refl _) _)
  have HX0 := Lib.hid (show Box2 (w.alloc (.cells #[.bool false, .slice none 0 0] 24)) w.heap.size (.bool false) (.slice none 0 0) from Box2.new _ _ _ _ rfl)
  have x0 := HX0.out.c0
  have x1 := HX0.out.c1
  have hb := get_bt (bodyT s)
  by_cases h0 : (bodyT s).size = 0
  · have HOK := Lib.hid (show ¬ OkT s from fun h => by have := h.1; omega)
    have hE : (bodyT s).toList.isEmpty = true := by rw [be_empty, decide_eq_true h0]
    go_enter Tryd.func7, Tryd.ntmps7
    go_wp2_with (first | (go_at_call 27; (with_reducible refine (cutPrefix_any s _).mono ?_); rintro e w1 ⟨rfl, rfl⟩) | fail)
    refine bodyPost_ret (v := .tuple #[.agg #[.bool false, .slice none 0 0], .int .i64 4]) (by simp [results, Tryd.results7, go_sem]) rfl (ParsePost.bad HOK.out HB0.out)
  · have hE : (bodyT s).toList.isEmpty = false := by rw [be_empty, decide_eq_false h0]
    have HBT := Lib.hid (fun k (h : k < (bodyT s).size) => body_bt s h)
    go_enter Tryd.func7, Tryd.ntmps7
    go_wp2_with (first | (go_at_call 27; (with_reducible refine (cutPrefix_any s _).mono ?_); rintro e w1 ⟨rfl, rfl⟩) | fail)
    go_loopw [6, 21] (fun _ iv wr => ∃ i : Nat, iv = .int .i64 i ∧ i ≤ (bodyT s).size ∧ wr = (w.alloc (.cells #[.bool false, .slice none 0 0] 24)) ∧ ∀ j, j < i → 48 ≤ bt (bodyT s) j ∧ bt (bodyT s) j ≤ 57) (fun _ iv _ => (bodyT s).size - (intOf iv).toNat)
    case atStart => exact ⟨0, by go_num, by omega, rfl, fun j hj => by omega⟩
    case round =>
      obtain ⟨i, rfl, hi, rfl, hall⟩ := hrel
      have HA := Lib.hid hall
      clear hall
      by_cases hlt : i < (bodyT s).size
      · have hiz : (i : Int) < ((bodyT s).size : Int) := by omega
        have hbn := bt_nonneg (bodyT s) i
        by_cases hb0 : bt (bodyT s) i < 48
        · have HOK := Lib.hid (show ¬ OkT s from fun h => by have := h.2 (fromT s + i) (by omega) (by omega); rw [← HBT.out i hlt] at this; omega)
          go_wp2_with fail
          refine bodyPost_ret (v := .tuple #[.agg #[.bool false, .slice none 0 0], .int .i64 4]) (by simp [results, Tryd.results7, go_sem]) rfl (ParsePost.bad HOK.out HB0.out)
        · by_cases hb9 : bt (bodyT s) i > 57
          · have HOK := Lib.hid (show ¬ OkT s from fun h => by have := h.2 (fromT s + i) (by omega) (by omega); rw [← HBT.out i hlt] at this; omega)
            have hb0d : decide (bt (bodyT s) i < 48) = false := by simp; omega
            go_wp2_with fail
            refine bodyPost_ret (v := .tuple #[.agg #[.bool false, .slice none 0 0], .int .i64 4]) (by simp [results, Tryd.results7, go_sem]) rfl (ParsePost.bad HOK.out HB0.out)
          · have hb0d : decide (bt (bodyT s) i < 48) = false := by simp; omega
            have hb9d : decide (bt (bodyT s) i > 57) = false := by simp; omega
            have hb9e : decide (57 < bt (bodyT s) i) = false := by simp; omega
            go_wp2_with fail
            go_roundw
            case rel => exact ⟨i + 1, by go_num, by omega, by first | rfl | trivial, fun j hj => by
              by_cases e : j = i
              · subst e; exact ⟨by omega, by omega⟩
              · exact HA.out j (by omega)⟩
            case measure => simp [intOf] <;> omega
      · obtain rfl : i = (bodyT s).size := by omega
        have hiz : ¬ (((bodyT s).size : Int) < ((bodyT s).size : Int)) := by omega
        have HDF := Lib.hid (show DigsFrom s (fromT s) from fun k h1 h2 => by
          have := HA.out (k - fromT s) (by omega)
          rw [HBT.out _ (by omega), show fromT s + (k - fromT s) = k by omega] at this
          exact this)
        have HOK := Lib.hid (show OkT s from ⟨by omega, HDF.out⟩)
        have HTC := Lib.hid (trim_cut HDF.out)
        have HSG := Lib.hid (sgn_cut (neg := negT s) HTC.out.1 (rdN_dig HDF.out))
        have HAD := Lib.hid (show AllDig (trimT (bodyT s)).data.toList from fun c hc => allDig_of HA.out c (List.dropWhile_sublist _ |>.subset hc))
        have hkl := HTC.out.1.1
        rw [rdN_len] at hkl
        have hlt2 : ((rdN s (fromT s)).take (trimT (bodyT s)).size).length = (trimT (bodyT s)).size := by rw [List.length_take, rdN_len]; omega
        have HFT := Lib.hid (show (trimT (bodyT s)).size ≤ 540 ↔ Small (numT s) by have := HSG.out.fits; rw [hlt2] at this; exact this)
        have HSP := Lib.hid HTC.out.2
        clear hlt2 hb HA HBT HTC HSG
        have HTL := Lib.hid (fun wx => trimLeft_any (bodyT s) wx)
        generalize trimT (bodyT s) = T0 at HAD hkl HFT HSP HTL
        by_cases hk5 : T0.size > 540
        · have hkz : (T0.size : Int) > 540 := by omega
          go_wp2_with (first | (go_at_call 28; (with_reducible refine (HTL.out _).mono ?_); rintro e w1 ⟨rfl, rfl⟩) | fail)
          refine bodyPost_ret (v := .tuple #[.agg #[.bool false, .slice none 0 0], .int .i64 2]) (by simp [results, Tryd.results7, go_sem]) rfl ⟨false, _, [], 2, rfl, .inl ⟨rfl, rfl⟩, .inr (.inl ⟨HOK.out, fun h => by have := HFT.out.2 h; omega, rfl, rfl, rfl⟩), HB0.out⟩
        · have hkz : ¬ ((T0.size : Int) > 540) := by omega
          go_wp2_with (first | (go_at_call 28; (with_reducible refine (HTL.out _).mono ?_); rintro e w1 ⟨rfl, rfl⟩) | fail)
          go_loopw [4, 7, 8, 9, 10] (fun bv v _ _ _ wr => ∃ (B : ByteArray) (P : List UInt8) (ws : List Int), bv = .string B ∧ B.data.toList ++ P = T0.data.toList ∧ (P.length = 18 * ws.length ∨ B.size = 0) ∧ ws.length ≤ P.length ∧ val B18 ws = spell P ∧ Dig B18 ws ∧ OW .u64 U64 wr (w.heap.size + 1) v ws ∧ Below (w.heap.size + 1) (w.alloc (.cells #[.bool false, .slice none 0 0] 24)) wr) (fun bv _ _ _ _ _ => strLen bv)
          case atStart => exact ⟨T0, [], [], rfl, by simp, .inl rfl, Nat.le_refl _, rfl, Dig.nil (by decide), OW.nil _ _, Below.refl _ _⟩
          case round =>
            obtain ⟨B, P, ws, rfl, hBP, hPl, hwl, hval, hdig, hO, hB⟩ := hrel
            have hbl := congrArg List.length hBP
            rw [List.length_append, ← Lib.size_eq, ← Lib.size_eq] at hbl
            have HBP := Lib.hid hBP
            have HPL := Lib.hid hPl
            have HVAL := Lib.hid hval
            have HDIG := Lib.hid hdig
            have HO := Lib.hid hO
            have HB := Lib.hid hB
            have hsz' := hB.size
            simp only [alloc_size] at hsz'
            clear hBP hPl hval hdig hO hB
            obtain ⟨pv, cv, rfl⟩ := own_formS HO.out
            by_cases hB0 : B.size = 0
            · have hbz : ¬ ((B.size : Int) > 0) := by omega
              have hPT : T0.data.toList = P := by rw [← HBP.out, List.length_eq_zero_iff.1 (show B.data.toList.length = 0 by rw [← Lib.size_eq]; exact hB0)]; rfl
              have HNV := Lib.hid (show sg (negT s) (val B18 ws) = numT s by rw [HVAL.out, ← hPT, HSP.out]; rfl)
              have e0 := HB.out.block w.heap.size (by simp)
              have m0 := (World.cell?_of_block (a := ⟨w.heap.size, 0, none⟩) e0).trans HX0.out.c0
              have m1 := (World.cell?_of_block (a := ⟨w.heap.size, 1, none⟩) e0).trans HX0.out.c1
              clear e0 x0 x1
              go_wp2_with fail
              refine (copied_any (negT s) _ ws wr (OW.rd HO.out (by omega))).mono ?_
              rintro e w4 ⟨k, g, hk, hg, rfl, hL, hb4⟩
              obtain ⟨neg', p, ws', hv, hM, hS, hlk⟩ := made_sgn (B0 := wr.heap.size) (negT s) hk HDIG.out hL hg
              rw [hv]
              have r0 := below_cell hb4 m0
              have r1 := below_cell hb4 m1
              have rf0 := (hb4.frozen (p := ⟨w.heap.size, 0, none⟩) (World.block_lt_of_cell? _ _ m0)).trans ((World.frozen?_of_block (a := ⟨w.heap.size, 0, none⟩) (HB.out.block w.heap.size (by simp))).trans HX0.out.f0)
              have rf1 := (hb4.frozen (p := ⟨w.heap.size, 1, none⟩) (World.block_lt_of_cell? _ _ m1)).trans ((World.frozen?_of_block (a := ⟨w.heap.size, 1, none⟩) (HB.out.block w.heap.size (by simp))).trans HX0.out.f1)
              have HM := Lib.hid (hM w4 rfl)
              have HSS := Lib.hid (show Sgn B18 neg' ws' (numT s) by rw [← HNV.out]; exact hS)
              have HB4 := Lib.hid (HB0.out.trans ((HB.out.trans (hb4.mono (by omega))).mono (by omega)))
              have HSM := Lib.hid (HFT.out.1 (by omega))
              clear hv hM hS hlk hb4 hL hk m0 m1
              go_wp2_with fail
              have zz := two_setW (x0 := .bool neg') (x1 := .slice p k k) r0 r1
              refine bodyPost_ret (v := .tuple #[.agg #[.bool neg', .slice p k k], .int .i64 0]) (by simp [results, Tryd.results7, go_sem, zz.1, zz.2]) rfl ⟨neg', _, ws', 0, rfl, (HM.out.set2 (by omega) _ _).low (by omega), .inr (.inr ⟨HOK.out, HSM.out, rfl, HSS.out⟩), (HB4.out.setCell (by simp) _).setCell (by simp) _⟩
            · have hbz : (B.size : Int) > 0 := by omega
              obtain ⟨F, hF⟩ : ∃ F : Nat, max 0 ((B.size : Int) - 18) = (F : Int) := ⟨(max 0 ((B.size : Int) - 18)).toNat, by omega⟩
              have hF1 : F < B.size := by omega
              have hF2 : B.size - F ≤ 18 := by omega
              have hF3 : F = 0 ∨ B.size - F = 18 := by omega
              have hwr : IntKind.i64.wrap ((B.size : Int) - 18) = (B.size : Int) - 18 := IntWalk.i64_in _ (by omega)
              have hFz : (F : Int) ≤ (B.size : Int) := by omega
              obtain ⟨C, hC⟩ : ∃ C, B.extract F B.size = C := ⟨_, rfl⟩
              have hCl : C.data.toList = B.data.toList.drop F := by
                rw [← hC, ← Lib.toList_data, Lib.extract_toList, List.take_of_length_le (by rw [List.length_drop, ← Lib.size_eq]; omega)]
              have hCs : C.size = B.size - F := by rw [Lib.size_eq, hCl, List.length_drop, ← Lib.size_eq]
              obtain ⟨D, hD⟩ : ∃ D, B.extract 0 F = D := ⟨_, rfl⟩
              have hDl : D.data.toList = B.data.toList.take F := by
                rw [← hD, ← Lib.toList_data, Lib.extract_toList, List.drop_zero]; rfl
              have hDs : D.size = F := by rw [Lib.size_eq, hDl, List.length_take, ← Lib.size_eq]; omega
              have hdc : AllDig C.data.toList := fun c hc => HAD.out c (by rw [← HBP.out]; exact List.mem_append_left _ (List.mem_of_mem_drop (by rw [← hCl]; exact hc)))
              have hsb := spell_bd hdc
              have hpb : (10 : Int) ^ C.data.toList.length ≤ 1000000000000000000 := by
                rw [← Lib.size_eq]
                have h18 : (10 : Int) ^ 18 = 1000000000000000000 := by decide
                rw [← h18]
                exact pow_mono' (by decide) (by omega)
              have HCN := Lib.hid (parseUint_any C wr (by omega) hdc (by omega))
              have HNEW := Lib.hid (show D.data.toList ++ (C.data.toList ++ P) = T0.data.toList by rw [← List.append_assoc, hDl, hCl, List.take_append_drop]; exact HBP.out)
              have hPL : P.length = 18 * ws.length := by rcases HPL.out with h | h
                                                         · exact h
                                                         · omega
              have HVN := Lib.hid (show val B18 (ws ++ [spell C.data.toList]) = spell (C.data.toList ++ P) by
                rw [val_append, HVAL.out, spell_append, hPL, pow18]
                simp only [val, Int.mul_zero, Int.add_zero]
                rw [Int.mul_comm (B18 ^ _)]; omega)
              have HDN := Lib.hid (HDIG.out.append (Dig.cons (d := spell C.data.toList) (by rw [B18]; omega) (Dig.nil (by decide))))
              have HLN := Lib.hid (show (C.data.toList ++ P).length = 18 * (ws.length + 1) ∨ D.size = 0 by
                rw [List.length_append, ← Lib.size_eq]
                omega)
              have HWL := Lib.hid (show ws.length + 1 ≤ (C.data.toList ++ P).length by rw [List.length_append, ← Lib.size_eq]; omega)
              have hcw : (0 : Int) ≤ spell C.data.toList := hsb.1
              clear hCl hDl hdc hpb
              go_wp2_with fail
              refine HCN.out.mono ?_
              rintro e w5 ⟨rfl, hb5⟩
              have HO5 := Lib.hid (HO.out.keep hb5)
              have HB5 := Lib.hid (HB.out.trans (hb5.mono (by omega)))
              have hz5 := hb5.size
              clear hb5 x0 x1
              go_wp2_with (at_builtin; refine wpList_app rfl (.tmp 56) (.tmp 58) rfl Tryd.underlying22 infoU64 rfl rfl (v := .slice pv ws.length cv) (base := w.heap.size + 1) (n := ws.length) (m := 1) (xs := ws.map (Value.int .u64)) (news := [.int .u64 (spell C.data.toList)]) (World.ownsRow.alloc HO5.out _) rfl (by exact src_top (by first | rfl | (simp; done))) (by simp [Value.oneCell']) (by unfold maxLen; omega) (by omega) (by simp <;> omega) ?_; intro v6 w6 hap; have HO6 := Lib.hid (show OW .u64 U64 w6 (w.heap.size + 1) v6 (ws ++ [spell C.data.toList]) from OW.snoc hap.own); have HB6 := Lib.hid ((HB5.out.alloc (by omega) _).trans (hap.below (by simp <;> omega) (fun g hg => (World.ownsRow.lt HO5.out g hg).1))); clear hap)
              go_roundw
              case rel => exact ⟨D, C.data.toList ++ P, ws ++ [spell C.data.toList], by first | rfl | (rw [← hD]; simp), HNEW.out, by have := HLN.out; simp only [List.length_append, List.length_singleton] at this ⊢; exact this, by have := HWL.out; simp only [List.length_append, List.length_singleton] at this ⊢; exact this, HVN.out, HDN.out, HO6.out, HB6.out⟩
              case measure => simp [strLen]; omega
end Go.Proofs.YticebchmafipiaaDoor
