/- Layer 4: written: the tokens as a source. -/
import Derived.Test.YtcjomeghcihecaaDoorLxB4
import Derived.Test.YtcjomeghcihecaaDoorLxBk
namespace Go.Proofs.YtcjomeghcihecaaDoor
open Go Go.ChangeShapes Go.WideShapes Go.ChangeAt Go.RowKit Go.PlainAid Go.Maps
set_option linter.unusedVariables false
set_option linter.unusedSimpArgs false
/-- What is left to be written, behind what is. -/
def WrL (ts : List Tk) (deep : Int) (beg : Bool) (acc : Bs) (r : List Tk) : Prop := wr 0 true ts = (wr deep beg r).map (acc ++ ·)
theorem WrL.start (ts : List Tk) : WrL ts 0 true [] ts := by unfold WrL; cases wr 0 true ts <;> simp
theorem WrL.inn {ts : List Tk} {deep : Int} {beg : Bool} {acc : Bs} {t : Tk} {r : List Tk} (h : WrL ts deep beg acc (t :: r)) (hk : t.kind = 2) : WrL ts (deep + 1) beg acc r := by
  unfold WrL at h ⊢
  rw [h]
  simp only [wr, hk, if_true]
theorem WrL.outt {ts : List Tk} {deep : Int} {beg : Bool} {acc : Bs} {t : Tk} {r : List Tk} (h : WrL ts deep beg acc (t :: r)) (hk : t.kind = 3) : WrL ts (deep - 1) beg acc r := by
  unfold WrL at h ⊢
  rw [h]
  simp only [wr]
  rw [if_neg (by omega), if_pos hk]
theorem WrL.line {ts : List Tk} {deep : Int} {beg : Bool} {acc : Bs} {t : Tk} {r : List Tk} (h : WrL ts deep beg acc (t :: r)) (hk : t.kind = 1) : WrL ts deep true (acc ++ [10]) r := by
  unfold WrL at h ⊢
  rw [h]
  simp only [wr]
  rw [if_neg (by omega), if_neg (by omega), if_pos hk]
  cases wr deep true r <;> simp
theorem WrL.done {ts : List Tk} {deep : Int} {beg : Bool} {acc : Bs} {t : Tk} {r : List Tk} (h : WrL ts deep beg acc (t :: r)) (hk : t.kind = 0) (hb : beg = true) : wr 0 true ts = some acc := by
  unfold WrL at h
  rw [h]
  simp only [wr]
  rw [if_neg (by omega), if_neg (by omega), if_neg (by omega), if_pos hk, if_pos hb]
  simp
def blB (beg : Bool) (deep : Int) : Bs := if beg then List.replicate (4 * deep).toNat 32 else []
theorem WrL.tok {ts : List Tk} {deep : Int} {beg : Bool} {acc : Bs} {t : Tk} {r : List Tk} (h : WrL ts deep beg acc (t :: r)) (hk : 4 ≤ t.kind) (h7 : t.kind ≠ 7) : WrL ts deep false (acc ++ blB beg deep ++ t.text ++ [32]) r := by
  unfold WrL at h ⊢
  rw [h, wr_tok hk, if_neg (fun hh => h7 hh.1)]
  cases wr deep false r <;> simp [showT, h7, blB]
theorem WrL.str {ts : List Tk} {deep : Int} {beg : Bool} {acc : Bs} {t : Tk} {r : List Tk} (h : WrL ts deep beg acc (t :: r)) (h7 : t.kind = 7) (hr : rawOk t.text = true) : WrL ts deep false (acc ++ blB beg deep ++ [34] ++ t.text ++ [34, 32]) r := by
  unfold WrL at h ⊢
  rw [h, wr_tok (by omega), if_neg (fun hh => by rw [hr] at hh; cases hh.2)]
  cases wr deep false r <;> simp [showT, h7, blB]
def WrP (W : World) (ts : List Tk) (e : Ending) (w' : World) : Prop := ∃ v b, e = .returned (.tuple #[v, .bool b]) ∧ Below W.heap.size W w' ∧ ∃ p m c, v = .slice p m c ∧ (b = true → ∃ text, wr 0 true ts = some text ∧ m = text.length ∧ O8 W.heap.size w' v text)
theorem rawOk_step {l : Bs} {k : Nat} {c : UInt8} (h : l[k]? = some c) : rawOk (l.take (k + 1)) = (rawOk (l.take k) && !(decide (c.toNat < 32) || decide (c.toNat = 34) || decide (c.toNat = 92))) := by
  have hi := (List.getElem?_eq_some_iff.1 h).1
  have e : l[k] = c := (List.getElem?_eq_some_iff.1 h).2
  rw [List.take_succ_eq_append_getElem hi, e]
  simp [rawOk]
theorem bt_at {l : Bs} {k : Nat} (h : k < l.length) : ∃ c : UInt8, l[k]? = some c ∧ bt (bsOf l) k = (c.toNat : Int) := by
  have h' : k < (bsOf l).size := by rw [Lib.size_eq]; exact h
  obtain ⟨c, h1, h2⟩ := Rs_cons h'
  refine ⟨c, ?_, h2⟩
  have e : (Rs (bsOf l) k)[0]? = some c := by rw [h1]; rfl
  unfold Rs at e
  rw [List.getElem?_drop, Nat.add_zero] at e
  exact e
theorem take_snoc' {l : Bs} {k : Nat} {c : UInt8} (h : l[k]? = some c) : l.take (k + 1) = l.take k ++ [c] := by
  have hi := (List.getElem?_eq_some_iff.1 h).1
  rw [List.take_succ_eq_append_getElem hi, (List.getElem?_eq_some_iff.1 h).2]
theorem txSum_take {ts : List Tk} {k : Nat} {t : Tk} (h : ts[k]? = some t) : txSum (ts.take (k + 1)) = txSum (ts.take k) + t.text.length := by
  have hi := (List.getElem?_eq_some_iff.1 h).1
  rw [List.take_succ_eq_append_getElem hi, (List.getElem?_eq_some_iff.1 h).2, txSum_app]
  simp [txSum]
theorem txSum_take_le (ts : List Tk) (k : Nat) : txSum (ts.take k) ≤ txSum ts := by
  have e := congrArg txSum (List.take_append_drop k ts)
  rw [txSum_app] at e
  omega
def WBd (ts : List Tk) (k : Nat) (acc : Bs) : Prop := acc.length ≤ k * 330000 + txSum (ts.take k)
theorem WBd.start (ts : List Tk) : WBd ts 0 [] := Nat.zero_le _
theorem WBd.step {ts : List Tk} {k : Nat} {acc acc' : Bs} {t : Tk} (h : WBd ts k acc) (ht : ts[k]? = some t) (ha : acc'.length ≤ acc.length + t.text.length + 330000) : WBd ts (k + 1) acc' := by
  unfold WBd at h ⊢
  rw [txSum_take ht]
  omega
theorem WBd.le {ts : List Tk} {k : Nat} {acc : Bs} (h : WBd ts k acc) (hk : k ≤ 80001) (hs : txSum ts ≤ 20000) : acc.length ≤ 26500000000 := by
  unfold WBd at h
  have := txSum_take_le ts k
  omega
structure BX (w : World) (X : Nat) (v : Value) (kd ld : Int) (s : ByteArray) : Prop where
  c0 : w.cell? ⟨X, 0, none⟩ = some (.int .i64 kd)
  c1 : w.cell? ⟨X, 1, none⟩ = some (.int .i64 ld)
  c2 : w.cell? ⟨X, 2, none⟩ = some (.string s)
  lt : X < w.heap.size
  own : v.ownBlock ≠ some X
theorem BX.keep {w w' : World} {X : Nat} {v v' : Value} {kd ld : Int} {s : ByteArray} (h : BX w X v kd ld s) (hk : KeepX w w' v v') : BX w' X v' kd ld s := by
  obtain ⟨e, h2, h3⟩ := hk X h.lt h.own
  exact ⟨(World.cell?_of_block (a := ⟨X, 0, none⟩) e).trans h.c0, (World.cell?_of_block (a := ⟨X, 1, none⟩) e).trans h.c1, (World.cell?_of_block (a := ⟨X, 2, none⟩) e).trans h.c2, h3, h2⟩
theorem blB_len {bg : Bool} {dp : Int} (h : 0 ≤ dp) (h2 : dp ≤ 80001) : (blB bg dp).length ≤ 320004 := by
  unfold blB
  split
  · rw [List.length_replicate]; omega
  · simp
theorem rep_snoc (j : Nat) : List.replicate j (32 : UInt8) ++ [32] = List.replicate (j + 1) 32 := by rw [List.replicate_succ']
set_option maxRecDepth 100000 in
set_option maxHeartbeats 8000000 in
theorem written_any (u : Value) (src : Bs) (ts : List Tk) (w : World) (h1 : Rt w u ts) (hlx : lexD src = .ok ts) :
    Calls Tryd.prog 17 #[u] w (WrP w ts) := by
  have hlen := lexD_len hlx
  have hts := lexD_txt hlx
  have HBK := Lib.hid (lexD_blocks hlx)
  have HTS := Lib.hid (show txSum ts ≤ 20000 by omega)
  obtain ⟨p, c, rfl, hc, hcx⟩ := rt_form h1
  have hpos : 0 < ts.length := List.length_pos_iff.2 (lex_ne hlx)
  obtain ⟨b5, o5, rfl, hcy⟩ := hcx hpos
  have HCC := Lib.hid hcy
  obtain ⟨B, hBq⟩ : ∃ b, w.heap.size = b := ⟨_, rfl⟩
  have HBQ := Lib.hid hBq
  have hBs : B ≤ w.heap.size := by omega
  have hBw : w.heap.size ≤ B := by omega
  clear h1 hlx hts hcx hcy hBq
  go_enter Tryd.func17, Tryd.ntmps17
  go_wp2_with fail
  go_loopw [4, 5, 6, 7] (fun s4 s5 s6 s7 wr => ∃ (k : Nat) (dp : Int) (bg : Bool) (acc : Bs), s5 = .int .i64 dp ∧ s6 = .bool bg ∧ s7 = .int .i64 k ∧ k ≤ ts.length ∧ dp = dpt (ts.take k) ∧ WrL ts dp bg acc (ts.drop k) ∧ WBd ts k acc ∧ O8 B wr s4 acc ∧ Below B w wr) (fun s4 s5 s6 s7 wr => ts.length - (intOf s7).toNat)
  case atStart => exact ⟨0, 0, true, [], by go_num, rfl, by go_num, Nat.zero_le _, by simp [dpt], WrL.start ts, WBd.start ts, o8_nil _ _, Below.refl _ _⟩
  case round =>
    obtain ⟨k, dp, bg, acc, rfl, rfl, rfl, hk, hdp, hwl, hal, ho, hbr⟩ := hrel
    have hd0 := HBK.out.deep k hk
    have hd1 := dpt_le (ts.take k)
    have hd2 := List.length_take_le k ts
    rw [← hdp] at hd0 hd1
    have hdk : dp ≤ k := by omega
    have hacc : acc.length ≤ 26500000000 := hal.le (by omega) HTS.out
    have HBR := Lib.hid hbr
    have HO := Lib.hid ho
    have HWL := Lib.hid hwl
    have HAL := Lib.hid hal
    have hrs : B ≤ wr.heap.size := by have := hbr.size; omega
    obtain ⟨p4, k4, rfl⟩ := ho.form
    clear hbr ho hwl hal hd1 hd2
    by_cases hlt : k < ts.length
    · have hz1 : (k : Int) < (ts.length : Int) := by omega
      have w1x : IntKind.i64.wrap ((k : Int) + 1) = (k : Int) + 1 := i64_in (by omega) (by omega)
      have ht : ts[k]? = some ts[k] := List.getElem?_eq_getElem hlt
      obtain ⟨t, htt⟩ : ∃ t, ts[k] = t := ⟨_, rfl⟩
      rw [htt] at ht
      obtain ⟨y0', y1', y2'⟩ := tok_kind HCC.out ht
      have y0 := below_cell (HBR.out.mono hBw) y0'
      have y1 := below_cell (HBR.out.mono hBw) y1'
      have y2 := below_cell (HBR.out.mono hBw) y2'
      have hdr : ts.drop k = t :: ts.drop (k + 1) := by rw [List.drop_eq_getElem_cons hlt, htt]
      have HWL2 := Lib.hid (show WrL ts dp bg acc (t :: ts.drop (k + 1)) by rw [← hdr]; exact HWL.out)
      have HD := Lib.hid (show dpt (ts.take (k + 1)) = dp + dlt t by rw [dpt_step ht, ← hdp])
      have HST := Lib.hid (fun (acc' : Bs) (ha : acc'.length ≤ acc.length + t.text.length + 330000) => HAL.out.step ht ha)
      have HTT := Lib.hid (txSum_take ht)
      have hkk := blk_tok HBK.out ht
      have HTL := Lib.hid (txSum_take_le ts (k + 1))
      clear y0' y1' y2' htt ht hdr hdp HWL
      obtain ⟨kd, ld, tx⟩ := t
      simp only at y0 y1 y2 hkk
      have hk0 : 0 ≤ kd := by rcases hkk with h | h; · omega
                              · have := h.1; simp only at this; omega
      have hk9 : kd ≤ 9 := by rcases hkk with h | h; · omega
                              · have := h.2.1; simp only at this; omega
      clear hkk
      obtain ⟨s, hs⟩ : ∃ s, bsOf tx = s := ⟨_, rfl⟩
      have hsz : s.size = tx.length := by rw [← hs, Lib.size_eq]; rfl
      have HS := Lib.hid hs
      have HSZ := Lib.hid hsz
      have hs2 : s.size ≤ 20000 := by have h1 := HTL.out; have h2 := HTT.out; have h3 := HTS.out; simp only at h2; omega
      rw [hs] at y2
      clear hs hsz
      go_upto_region 8 with fail
      obtain ⟨W9, hW9⟩ : ∃ W, wr.alloc (.cells #[.int .i64 kd, .int .i64 ld, .string s] 33) = W := ⟨_, rfl⟩
      obtain ⟨z0, z1, z2⟩ := alloc3 _ _ _ _ _ _ hW9
      have HB9 := Lib.hid (show Below B w W9 by rw [← hW9]; exact HBR.out.alloc hrs _)
      have HO9 := Lib.hid (show O8 B W9 (.slice p4 acc.length k4) acc by rw [← hW9]; exact HO.out.alloc _)
      have hw9s : B ≤ W9.heap.size := by rw [← hW9]; simp; omega
      have hX9 : wr.heap.size < W9.heap.size := by rw [← hW9]; simp
      have HXO := Lib.hid (show (Value.slice p4 acc.length k4).ownBlock ≠ some wr.heap.size from fun e => by have := (owns_lt HO.out e).2; omega)
      rw [hW9]
      clear hW9 y0 y1 y2
      obtain ⟨X, hX⟩ : ∃ X, wr.heap.size = X := ⟨_, rfl⟩
      rw [hX] at z0 z1 z2 hX9 HXO ⊢
      clear hX
      by_cases h2 : kd = 2
      · subst h2
        have hv : dpt (ts.take (k + 1)) = dp + 1 := by rw [HD.out]; rfl
        have w3x : IntKind.i64.wrap (dp + 1) = dp + 1 := i64_in (by omega) (by omega)
        have HV := Lib.hid hv
        clear hv
        go_wp2_with fail
        go_roundw
        case rel => exact ⟨k + 1, dp + 1, bg, acc, by go_num, rfl, by go_num, by omega, HV.out.symm, HWL2.out.inn rfl, HST.out _ (by omega), HO9.out, HB9.out⟩
        case measure => simp [intOf]; omega
      · by_cases h3 : kd = 3
        · subst h3
          have hv : dpt (ts.take (k + 1)) = dp - 1 := by rw [HD.out]; rfl
          have w3x : IntKind.i64.wrap (dp - 1) = dp - 1 := i64_in (by omega) (by omega)
          have HV := Lib.hid hv
          clear hv
          go_wp2_with fail
          go_roundw
          case rel => exact ⟨k + 1, dp - 1, bg, acc, by go_num, rfl, by go_num, by omega, HV.out.symm, HWL2.out.outt rfl, HST.out _ (by omega), HO9.out, HB9.out⟩
          case measure => simp [intOf]; omega
        · have hv : dpt (ts.take (k + 1)) = dp := by rw [HD.out]; simp [dlt, h2, h3]
          have HV := Lib.hid hv
          have hb2 : (kd == 2) = false := by simpa using h2
          have hb3 : (kd == 3) = false := by simpa using h3
          clear hv
          by_cases h1 : kd = 1
          · subst h1
            have HAP := Lib.hid (o8_snocK HO9.out hw9s (by omega) 10)
            go_wp2_with (first
              | (at_builtin; refine wpList_appR rfl (.tmp 33) (.tmp 34) rfl rfl rfl (by exact HAP.out _) ?_; rintro v8 w8 ⟨ho8, hb8, _⟩; have HO8 := Lib.hid ho8; have HB8 := Lib.hid (HB9.out.trans hb8); clear ho8 hb8)
              | fail)
            go_roundw
            case rel => exact ⟨k + 1, dp, true, acc ++ [10], by go_num, rfl, by go_num, by omega, HV.out.symm, HWL2.out.line rfl, HST.out _ (by rw [List.length_append, List.length_singleton]; omega), HO8.out, HB8.out⟩
            case measure => simp [intOf]; omega
          · have hb1 : (kd == 1) = false := by simpa using h1
            by_cases h0 : kd = 0
            · subst h0
              cases bg with
              | true =>
                go_wp2_with fail
                refine bodyPost_ret (v := .tuple #[.slice p4 acc.length k4, .bool true]) (by simp [results, Tryd.results17, go_sem]) rfl ⟨_, _, rfl, ?_, _, _, _, rfl, fun _ => ⟨acc, HWL2.out.done rfl rfl, rfl, ?_⟩⟩
                · rw [HBQ.out]; exact HB9.out
                · rw [HBQ.out]; exact HO9.out
              | false =>
                go_wp2_with fail
                refine bodyPost_ret (v := .tuple #[.slice p4 acc.length k4, .bool false]) (by simp [results, Tryd.results17, go_sem]) rfl ⟨_, _, rfl, ?_, _, _, _, rfl, fun h => by cases h⟩
                rw [HBQ.out]; exact HB9.out
            · have hb0 : (kd == 0) = false := by simpa using h0
              have hk4 : 4 ≤ kd := by omega
              have HBX9 := Lib.hid (show BX W9 X (.slice p4 acc.length k4) kd ld s from ⟨z0, z1, z2, hX9, HXO.out⟩)
              obtain ⟨q, hq⟩ : ∃ q : Nat, (q : Int) = 4 * dp := ⟨(4 * dp).toNat, by omega⟩
              have w4x : IntKind.i64.wrap (4 * dp) = (q : Int) := by rw [hq]; exact i64_in (by omega) (by omega)
              have HQ := Lib.hid hq
              have hq2 : q ≤ 320004 := by omega
              clear hq z0 z1 z2
              have z0 := BX.c0 HBX9.out
              go_wp2_with fail
              clear HBR HO hrs z0
              go_loopw [4, 9] (fun s4 s9 wr => ∃ j : Nat, s9 = .int .i64 j ∧ j ≤ (blB bg dp).length ∧ O8 B wr s4 (acc ++ List.replicate j 32) ∧ BX wr X s4 kd ld s ∧ Below B w wr) (fun s4 s9 wr => (blB bg dp).length - (intOf s9).toNat)
              case atStart => exact ⟨0, by go_num, Nat.zero_le _, by rw [List.replicate_zero, List.append_nil]; exact HO9.out, HBX9.out, HB9.out⟩
              case round =>
                obtain ⟨j, rfl, hj, ho, hbx, hb⟩ := hrel
                have hbl := blB_len (bg := bg) hd0 (show dp ≤ 80001 by omega)
                have HBX := Lib.hid hbx
                have HB2 := Lib.hid hb
                have hrs2 : B ≤ wr.heap.size := by have := hb.size; omega
                have w3x : IntKind.i64.wrap ((j : Int) + 1) = (j : Int) + 1 := i64_in (by omega) (by omega)
                obtain ⟨p5, k5, rfl⟩ := ho.form
                cases bg with
                | true =>
                  have hbe : blB true dp = List.replicate q 32 := by unfold blB; rw [if_pos rfl, ← HQ.out]; rfl
                  rw [hbe, List.length_replicate] at hj
                  have HBE := Lib.hid hbe
                  have HO2 := Lib.hid ho
                  clear hbe ho hbx hb
                  by_cases hjq : j < q
                  · have hz3 : (j : Int) < (q : Int) := by omega
                    have HAP := Lib.hid (o8_snocK HO2.out hrs2 (by rw [List.length_append, List.length_replicate]; omega) 32)
                    go_wp2_with (first
                      | (at_builtin; refine wpList_appR rfl (.tmp 49) (.tmp 50) rfl rfl rfl (by exact HAP.out _) ?_; rintro v8 w8 ⟨ho8, hb8, hkx⟩; have HBX8 := Lib.hid (HBX.out.keep hkx); have HO8 := Lib.hid ho8; have HB8 := Lib.hid (HB2.out.trans hb8); clear ho8 hb8 hkx HAP)
                      | fail)
                    go_roundw
                    case rel => exact ⟨j + 1, by go_num, by rw [HBE.out, List.length_replicate]; omega, by rw [← rep_snoc, ← List.append_assoc]; exact HO8.out, HBX8.out, HB8.out⟩
                    case measure => have h := HBE.out; rw [h, List.length_replicate]; simp [intOf]; omega
                  · have hz3 : ¬ (j : Int) < (q : Int) := by omega
                    obtain ⟨acc2, hA2⟩ : ∃ x, acc ++ List.replicate j 32 = x := ⟨_, rfl⟩
                    rw [hA2] at HO2 HBX ⊢
                    replace hA2 : acc ++ blB true dp = acc2 := by rw [HBE.out, ← hA2]; congr 2; omega
                    clear w3x
                    have HA2 := Lib.hid hA2
                    have hz9 := BX.c0 HBX.out
                    have hz92 := BX.c2 HBX.out
                    have ha2 : acc2.length ≤ acc.length + 320004 := by
                      have h := blB_len (bg := true) hd0 (by omega)
                      rw [← HA2.out, List.length_append]; omega
                    clear hA2
                    by_cases h7 : kd = 7
                    · subst h7
                      have HAP := Lib.hid (o8_snocK HO2.out hrs2 (by omega) 34)
                      go_wp2_with (first
                        | (at_builtin; refine wpList_appR rfl (.tmp 61) (.tmp 62) rfl rfl rfl (by exact HAP.out _) ?_; rintro v8 w8 ⟨ho8, hb8, hkx⟩; obtain ⟨acc3, hacc3⟩ : ∃ x, acc2 ++ [34] = x := ⟨_, rfl⟩; rw [hacc3] at ho8; have HA3 := Lib.hid hacc3; have ha3 : acc3.length ≤ acc2.length + 1 := (by rw [← hacc3]; simp); clear hacc3; have HBX8 := Lib.hid (HBX.out.keep hkx); have HO8 := Lib.hid ho8; have HB8 := Lib.hid (HB2.out.trans hb8); obtain ⟨p8, k8, rfl⟩ := ho8.form; clear ho8 hb8 hkx HAP)
                        | fail)
                      clear hz9 hz92
                      obtain ⟨wA, hwA⟩ : ∃ wA : World, wA = wr := ⟨_, rfl⟩
                      rw [← hwA] at HO2 HB2 HBX
                      clear hwA
                      go_loopw [4, 10] (fun s4 s10 wr => ∃ j : Nat, s10 = .int .i64 j ∧ j ≤ tx.length ∧ rawOk (tx.take j) = true ∧ O8 B wr s4 (acc3 ++ tx.take j) ∧ BX wr X s4 7 ld s ∧ Below B w wr) (fun s4 s10 wr => tx.length - (intOf s10).toNat)
                      case atStart => exact ⟨0, by go_num, Nat.zero_le _, rfl, by rw [List.take_zero, List.append_nil]; exact HO8.out, HBX8.out, HB8.out⟩
                      case round =>
                        obtain ⟨j, rfl, hj, hraw, ho, hbx, hb⟩ := hrel
                        have htk := List.length_take_le j tx
                        have htx2 : tx.length ≤ 20000 := by have := HSZ.out; omega
                        have hsz1 : (s.size : Int) ≤ 20000 := by omega
                        have HO5 := Lib.hid ho
                        have HBX5 := Lib.hid hbx
                        have HB5 := Lib.hid hb
                        have hz5 := BX.c2 hbx
                        have hrs5 : B ≤ wr.heap.size := by have := hb.size; omega
                        obtain ⟨p5, k5, rfl⟩ := ho.form
                        have HRAW := Lib.hid hraw
                        clear ho hbx hb hraw
                        have w3x : IntKind.i64.wrap ((j : Int) + 1) = (j : Int) + 1 := i64_in (by omega) (by omega)
                        by_cases hjl : j < tx.length
                        · have hjs : j < s.size := by have := HSZ.out; omega
                          have hz3 : (j : Int) < (s.size : Int) := by omega
                          have hgs := get_bt s
                          obtain ⟨c, hc1, hc2⟩ := bt_at hjl
                          rw [HS.out] at hc2
                          have hrs := rawOk_step hc1
                          have hts := take_snoc' hc1
                          have HTS3 := Lib.hid hts
                          have HRS3 := Lib.hid hrs
                          have HC1 := Lib.hid hc1
                          have HC2 := Lib.hid hc2
                          clear hc1 hrs hts
                          by_cases g1 : c.toNat < 32
                          · have b1 : decide (bt s j < 32) = true := by rw [hc2]; simp; omega
                            clear hc2
                            go_wp2_with fail
                            refine bodyPost_ret (v := .tuple #[.slice none 0 0, .bool false]) (by simp [results, Tryd.results17, go_sem]) rfl ⟨_, _, rfl, ?_, _, _, _, rfl, fun h => by cases h⟩
                            rw [HBQ.out]; exact HB5.out
                          · have b1 : decide (bt s j < 32) = false := by rw [hc2]; simp; omega
                            by_cases g2 : c.toNat = 34
                            · have b2 : (bt s j == 34) = true := by rw [hc2]; simp; omega
                              clear hc2
                              go_wp2_with fail
                              refine bodyPost_ret (v := .tuple #[.slice none 0 0, .bool false]) (by simp [results, Tryd.results17, go_sem]) rfl ⟨_, _, rfl, ?_, _, _, _, rfl, fun h => by cases h⟩
                              rw [HBQ.out]; exact HB5.out
                            · have b2 : (bt s j == 34) = false := by rw [hc2]; simp; omega
                              by_cases g3 : c.toNat = 92
                              · have b3 : (bt s j == 92) = true := by rw [hc2]; simp; omega
                                clear hc2
                                go_wp2_with fail
                                refine bodyPost_ret (v := .tuple #[.slice none 0 0, .bool false]) (by simp [results, Tryd.results17, go_sem]) rfl ⟨_, _, rfl, ?_, _, _, _, rfl, fun h => by cases h⟩
                                rw [HBQ.out]; exact HB5.out
                              · have b3 : (bt s j == 92) = false := by rw [hc2]; simp; omega
                                clear hc2
                                have HAP := Lib.hid (o8_snocK HO5.out hrs5 (by rw [List.length_append]; omega) c)
                                go_wp2_with (first
                                  | (at_builtin; refine wpList_appR rfl (.tmp 90) (.tmp 95) rfl rfl rfl (by have h := HAP.out; rw [← HC2.out] at h; exact h _) ?_; rintro v6 w6 ⟨ho6, hb6, hkx⟩; have HBX6 := Lib.hid (HBX5.out.keep hkx); have HO6 := Lib.hid ho6; have HB6 := Lib.hid (HB5.out.trans hb6); clear ho6 hb6 hkx)
                                  | fail)
                                go_roundw
                                case rel => exact ⟨j + 1, by go_num, hjl, by rw [HRS3.out, HRAW.out]; simp [g1, g2, g3], by rw [HTS3.out, ← List.append_assoc]; exact HO6.out, HBX6.out, HB6.out⟩
                                case measure => simp [intOf]; omega
                        · have hjs : ¬ j < s.size := by have := HSZ.out; omega
                          have hz3 : ¬ (j : Int) < (s.size : Int) := by omega
                          have htk2 : tx.take j = tx := List.take_of_length_le (by omega)
                          rw [htk2] at HO5 HRAW ⊢
                          clear w3x htk2
                          have HAP := Lib.hid (o8_snoc2 HO5.out hrs5 (by rw [List.length_append]; omega) 34 32)
                          go_wp2_with (first
                            | (at_builtin; refine wpList_appR rfl (.tmp 97) (.tmp 98) rfl rfl rfl (by exact HAP.out _) ?_; rintro v6 w6 ⟨ho6, hb6, hkx⟩; have HO6 := Lib.hid ho6; have HB6 := Lib.hid (HB5.out.trans hb6); clear ho6 hb6 hkx HAP)
                            | fail)
                          go_roundw
                          case rel => exact ⟨k + 1, dp, false, acc3 ++ tx ++ [34, 32], by go_num, rfl, by go_num, by omega, HV.out.symm, by rw [← HA3.out, ← HA2.out]; exact HWL2.out.str rfl HRAW.out, HST.out _ (by simp only [List.length_append, List.length_cons, List.length_nil]; omega), HO6.out, HB6.out⟩
                          case measure => simp [intOf]; omega
                    · have hb7 : (kd == 7) = false := by simpa using h7
                      have HAP := Lib.hid (o8_str (m := tx) HO2.out hrs2 (by have := HSZ.out; omega))
                      rw [HS.out] at HAP
                      go_wp2_with (first
                        | (at_builtin; refine wpList_appR rfl (.tmp 55) (.tmp 57) rfl rfl rfl (by exact HAP.out _) ?_; rintro v8 w8 ⟨ho8, hb8⟩; obtain ⟨acc3, hacc3⟩ : ∃ x, acc2 ++ tx = x := ⟨_, rfl⟩; rw [hacc3] at ho8; have HA3 := Lib.hid hacc3; have ha3 : acc3.length ≤ acc2.length + tx.length := (by rw [← hacc3]; simp); clear hacc3; have HB8 := Lib.hid (HB2.out.trans hb8); have hw8s : B ≤ w8.heap.size := (by have h1 := HB8.out.size; omega); have HAQ := Lib.hid (o8_snocK ho8 hw8s (by have := HSZ.out; omega) 32); obtain ⟨p8, k8, rfl⟩ := ho8.form; clear ho8 hb8 HAP)
                        | (at_builtin; refine wpList_appR rfl (.tmp 58) (.tmp 59) rfl rfl rfl (by exact HAQ.out _) ?_; rintro v9 w9 ⟨ho9, hb9, _⟩; have HO9b := Lib.hid ho9; have HB9b := Lib.hid (HB8.out.trans hb9); clear ho9 hb9 HAQ)
                        | fail)
                      go_roundw
                      case rel => exact ⟨k + 1, dp, false, acc3 ++ [32], by go_num, rfl, by go_num, by omega, HV.out.symm, by rw [← HA3.out, ← HA2.out]; exact HWL2.out.tok hk4 h7, HST.out _ (by simp only [List.length_append, List.length_cons, List.length_nil]; omega), HO9b.out, HB9b.out⟩
                      case measure => simp [intOf]; omega
                | false =>
                  have hj0 : j = 0 := by unfold blB at hj; simp at hj; exact hj
                  subst hj0
                  rw [List.replicate_zero, List.append_nil] at ho HBX ⊢
                  have HO2 := Lib.hid ho
                  have hA2 : acc ++ blB false dp = acc := by simp [blB]
                  clear ho hbx hb w3x
                  have HA2 := Lib.hid hA2
                  have hz9 := BX.c0 HBX.out
                  have hz92 := BX.c2 HBX.out
                  have ha2 : acc.length ≤ acc.length + 320004 := by
                    have h := blB_len (bg := false) hd0 (by omega)
                    omega
                  clear hA2
                  by_cases h7 : kd = 7
                  · subst h7
                    have HAP := Lib.hid (o8_snocK HO2.out hrs2 (by omega) 34)
                    go_wp2_with (first
                      | (at_builtin; refine wpList_appR rfl (.tmp 61) (.tmp 62) rfl rfl rfl (by exact HAP.out _) ?_; rintro v8 w8 ⟨ho8, hb8, hkx⟩; obtain ⟨acc3, hacc3⟩ : ∃ x, acc ++ [34] = x := ⟨_, rfl⟩; rw [hacc3] at ho8; have HA3 := Lib.hid hacc3; have ha3 : acc3.length ≤ acc.length + 1 := (by rw [← hacc3]; simp); clear hacc3; have HBX8 := Lib.hid (HBX.out.keep hkx); have HO8 := Lib.hid ho8; have HB8 := Lib.hid (HB2.out.trans hb8); obtain ⟨p8, k8, rfl⟩ := ho8.form; clear ho8 hb8 hkx HAP)
                      | fail)
                    clear hz9 hz92
                    obtain ⟨wA, hwA⟩ : ∃ wA : World, wA = wr := ⟨_, rfl⟩
                    rw [← hwA] at HO2 HB2 HBX
                    clear hwA
                    go_loopw [4, 10] (fun s4 s10 wr => ∃ j : Nat, s10 = .int .i64 j ∧ j ≤ tx.length ∧ rawOk (tx.take j) = true ∧ O8 B wr s4 (acc3 ++ tx.take j) ∧ BX wr X s4 7 ld s ∧ Below B w wr) (fun s4 s10 wr => tx.length - (intOf s10).toNat)
                    case atStart => exact ⟨0, by go_num, Nat.zero_le _, rfl, by rw [List.take_zero, List.append_nil]; exact HO8.out, HBX8.out, HB8.out⟩
                    case round =>
                      obtain ⟨j, rfl, hj, hraw, ho, hbx, hb⟩ := hrel
                      have htk := List.length_take_le j tx
                      have htx2 : tx.length ≤ 20000 := by have := HSZ.out; omega
                      have hsz1 : (s.size : Int) ≤ 20000 := by omega
                      have HO5 := Lib.hid ho
                      have HBX5 := Lib.hid hbx
                      have HB5 := Lib.hid hb
                      have hz5 := BX.c2 hbx
                      have hrs5 : B ≤ wr.heap.size := by have := hb.size; omega
                      obtain ⟨p5, k5, rfl⟩ := ho.form
                      have HRAW := Lib.hid hraw
                      clear ho hbx hb hraw
                      have w3x : IntKind.i64.wrap ((j : Int) + 1) = (j : Int) + 1 := i64_in (by omega) (by omega)
                      by_cases hjl : j < tx.length
                      · have hjs : j < s.size := by have := HSZ.out; omega
                        have hz3 : (j : Int) < (s.size : Int) := by omega
                        have hgs := get_bt s
                        obtain ⟨c, hc1, hc2⟩ := bt_at hjl
                        rw [HS.out] at hc2
                        have hrs := rawOk_step hc1
                        have hts := take_snoc' hc1
                        have HTS3 := Lib.hid hts
                        have HRS3 := Lib.hid hrs
                        have HC1 := Lib.hid hc1
                        have HC2 := Lib.hid hc2
                        clear hc1 hrs hts
                        by_cases g1 : c.toNat < 32
                        · have b1 : decide (bt s j < 32) = true := by rw [hc2]; simp; omega
                          clear hc2
                          go_wp2_with fail
                          refine bodyPost_ret (v := .tuple #[.slice none 0 0, .bool false]) (by simp [results, Tryd.results17, go_sem]) rfl ⟨_, _, rfl, ?_, _, _, _, rfl, fun h => by cases h⟩
                          rw [HBQ.out]; exact HB5.out
                        · have b1 : decide (bt s j < 32) = false := by rw [hc2]; simp; omega
                          by_cases g2 : c.toNat = 34
                          · have b2 : (bt s j == 34) = true := by rw [hc2]; simp; omega
                            clear hc2
                            go_wp2_with fail
                            refine bodyPost_ret (v := .tuple #[.slice none 0 0, .bool false]) (by simp [results, Tryd.results17, go_sem]) rfl ⟨_, _, rfl, ?_, _, _, _, rfl, fun h => by cases h⟩
                            rw [HBQ.out]; exact HB5.out
                          · have b2 : (bt s j == 34) = false := by rw [hc2]; simp; omega
                            by_cases g3 : c.toNat = 92
                            · have b3 : (bt s j == 92) = true := by rw [hc2]; simp; omega
                              clear hc2
                              go_wp2_with fail
                              refine bodyPost_ret (v := .tuple #[.slice none 0 0, .bool false]) (by simp [results, Tryd.results17, go_sem]) rfl ⟨_, _, rfl, ?_, _, _, _, rfl, fun h => by cases h⟩
                              rw [HBQ.out]; exact HB5.out
                            · have b3 : (bt s j == 92) = false := by rw [hc2]; simp; omega
                              clear hc2
                              have HAP := Lib.hid (o8_snocK HO5.out hrs5 (by rw [List.length_append]; omega) c)
                              go_wp2_with (first
                                | (at_builtin; refine wpList_appR rfl (.tmp 90) (.tmp 95) rfl rfl rfl (by have h := HAP.out; rw [← HC2.out] at h; exact h _) ?_; rintro v6 w6 ⟨ho6, hb6, hkx⟩; have HBX6 := Lib.hid (HBX5.out.keep hkx); have HO6 := Lib.hid ho6; have HB6 := Lib.hid (HB5.out.trans hb6); clear ho6 hb6 hkx)
                                | fail)
                              go_roundw
                              case rel => exact ⟨j + 1, by go_num, hjl, by rw [HRS3.out, HRAW.out]; simp [g1, g2, g3], by rw [HTS3.out, ← List.append_assoc]; exact HO6.out, HBX6.out, HB6.out⟩
                              case measure => simp [intOf]; omega
                      · have hjs : ¬ j < s.size := by have := HSZ.out; omega
                        have hz3 : ¬ (j : Int) < (s.size : Int) := by omega
                        have htk2 : tx.take j = tx := List.take_of_length_le (by omega)
                        rw [htk2] at HO5 HRAW ⊢
                        clear w3x htk2
                        have HAP := Lib.hid (o8_snoc2 HO5.out hrs5 (by rw [List.length_append]; omega) 34 32)
                        go_wp2_with (first
                          | (at_builtin; refine wpList_appR rfl (.tmp 97) (.tmp 98) rfl rfl rfl (by exact HAP.out _) ?_; rintro v6 w6 ⟨ho6, hb6, hkx⟩; have HO6 := Lib.hid ho6; have HB6 := Lib.hid (HB5.out.trans hb6); clear ho6 hb6 hkx HAP)
                          | fail)
                        go_roundw
                        case rel => exact ⟨k + 1, dp, false, acc3 ++ tx ++ [34, 32], by go_num, rfl, by go_num, by omega, HV.out.symm, by have h := HWL2.out.str rfl HRAW.out; rw [HA2.out] at h; rw [← HA3.out]; exact h, HST.out _ (by simp only [List.length_append, List.length_cons, List.length_nil]; omega), HO6.out, HB6.out⟩
                        case measure => simp [intOf]; omega
                  · have hb7 : (kd == 7) = false := by simpa using h7
                    have HAP := Lib.hid (o8_str (m := tx) HO2.out hrs2 (by have := HSZ.out; omega))
                    rw [HS.out] at HAP
                    go_wp2_with (first
                      | (at_builtin; refine wpList_appR rfl (.tmp 55) (.tmp 57) rfl rfl rfl (by exact HAP.out _) ?_; rintro v8 w8 ⟨ho8, hb8⟩; obtain ⟨acc3, hacc3⟩ : ∃ x, acc ++ tx = x := ⟨_, rfl⟩; rw [hacc3] at ho8; have HA3 := Lib.hid hacc3; have ha3 : acc3.length ≤ acc.length + tx.length := (by rw [← hacc3]; simp); clear hacc3; have HB8 := Lib.hid (HB2.out.trans hb8); have hw8s : B ≤ w8.heap.size := (by have h1 := HB8.out.size; omega); have HAQ := Lib.hid (o8_snocK ho8 hw8s (by have := HSZ.out; omega) 32); obtain ⟨p8, k8, rfl⟩ := ho8.form; clear ho8 hb8 HAP)
                      | (at_builtin; refine wpList_appR rfl (.tmp 58) (.tmp 59) rfl rfl rfl (by exact HAQ.out _) ?_; rintro v9 w9 ⟨ho9, hb9, _⟩; have HO9b := Lib.hid ho9; have HB9b := Lib.hid (HB8.out.trans hb9); clear ho9 hb9 HAQ)
                      | fail)
                    go_roundw
                    case rel => exact ⟨k + 1, dp, false, acc3 ++ [32], by go_num, rfl, by go_num, by omega, HV.out.symm, by have h := HWL2.out.tok hk4 h7; rw [HA2.out] at h; rw [← HA3.out]; exact h, HST.out _ (by simp only [List.length_append, List.length_cons, List.length_nil]; omega), HO9b.out, HB9b.out⟩
                    case measure => simp [intOf]; omega
    · have hz1 : ¬ (k : Int) < (ts.length : Int) := by omega
      go_wp2_with fail
      refine bodyPost_ret (v := .tuple #[.slice none 0 0, .bool false]) (by simp [results, Tryd.results17, go_sem]) rfl ⟨_, _, rfl, ?_, _, _, _, rfl, fun h => by cases h⟩
      rw [HBQ.out]; exact HBR.out
end Go.Proofs.YtcjomeghcihecaaDoor
