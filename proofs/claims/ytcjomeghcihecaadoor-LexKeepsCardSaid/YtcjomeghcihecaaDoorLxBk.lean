/- Layer 4: the law LexBlocks. -/
import Derived.Test.YtcjomeghcihecaaDoorLxV2
import Derived.Test.YtcjomeghcihecaaDoorLxJo
import Derived.Test.YtcjomeghcihecaaDoorLxTx
namespace Go.Proofs.YtcjomeghcihecaaDoor
open Go Go.ChangeShapes Go.WideShapes Go.ChangeAt Go.RowKit Go.PlainAid Go.Maps
set_option linter.unusedVariables false
set_option linter.unusedSimpArgs false
theorem r8_at {w : World} {v : Value} {l : Bs} (h : R8 w v l) : ∃ p c, v = .slice p l.length c ∧ (0 < l.length → ∃ b off, p = some ⟨b, off, none⟩ ∧ ∀ i, i < l.length → ∃ x : UInt8, l[i]? = some x ∧ w.cell? ⟨b, off + i, none⟩ = some (.int .u8 (x.toNat : Int))) := by
  rcases h with ⟨p, rfl, e⟩ | ⟨b, off, c, rfl, h1, h2, h3⟩
  · have hl : l = [] := by cases l with | nil => rfl | cons x y => simp [ints8] at e
    subst hl
    exact ⟨p, 0, rfl, fun h => by simp at h⟩
  · rw [ints8_len] at h3
    refine ⟨_, c, by rw [ints8_len], fun _ => ⟨b, off, rfl, fun i hi => ⟨l[i], List.getElem?_eq_getElem hi, ?_⟩⟩⟩
    have e : (ints8 l).getD i 0 = ((l[i]).toNat : Int) := by
      rw [List.getD_eq_getElem?_getD]
      simp [ints8, List.getElem?_map, List.getElem?_eq_getElem hi]
    rw [← e]
    exact h3 i hi
def rowN (l : Bs) (i : Nat) : Nat := (l.take i).count 10 + 1
theorem rowN_le (l : Bs) (i : Nat) : rowN l i ≤ i + 1 := by
  unfold rowN
  have h1 := List.count_le_length (a := (10 : UInt8)) (l := l.take i)
  have h2 := List.length_take_le i l
  omega
theorem rowN_step {l : Bs} {i : Nat} {x : UInt8} (h : l[i]? = some x) : rowN l (i + 1) = rowN l i + if x = 10 then 1 else 0 := by
  unfold rowN
  have hi := (List.getElem?_eq_some_iff.1 h).1
  have e : l[i] = x := (List.getElem?_eq_some_iff.1 h).2
  rw [List.take_succ_eq_append_getElem hi, List.count_append, e]
  by_cases hx : x = 10
  · subst hx; simp
  · rw [if_neg hx]; simp [List.count_cons, hx]
theorem rowN_all (l : Bs) {i : Nat} (h : l.length ≤ i) : rowN l i = (splitB l).length := by
  unfold rowN
  rw [List.take_of_length_le h, splitB_len]
theorem dpt_step {ts : List Tk} {i : Nat} {t : Tk} (h : ts[i]? = some t) : dpt (ts.take (i + 1)) = dpt (ts.take i) + dlt t := by
  have hi := (List.getElem?_eq_some_iff.1 h).1
  have e : ts[i] = t := (List.getElem?_eq_some_iff.1 h).2
  rw [List.take_succ_eq_append_getElem hi, e, dpt_append]
  simp [dpt]
theorem dpt_le (l : List Tk) : dpt l ≤ l.length := by
  induction l with
  | nil => simp [dpt]
  | cons t r ih =>
    rw [dpt_cons, List.length_cons]
    unfold dlt
    split
    · omega
    · split <;> omega
theorem blk_tok {n : Int} {ts : List Tk} (h : BlkOk n ts) {i : Nat} {t : Tk} (ht : ts[i]? = some t) : (t.kind = 0 ∧ t.text = [] ∧ i + 1 = ts.length) ∨ TxOk t := by
  obtain ⟨p, e, hp⟩ := h.last
  by_cases hi : i < p.length
  · rw [e, List.getElem?_append_left hi, List.getElem?_eq_getElem hi] at ht
    injection ht with ht
    exact .inr (hp t (by rw [← ht]; exact List.getElem_mem hi))
  · have hlt := (List.getElem?_eq_some_iff.1 ht).1
    have hl : ts.length = p.length + 1 := by rw [e]; simp
    have : i = p.length := by omega
    subst this
    rw [e, List.getElem?_append_right (Nat.le_refl _), Nat.sub_self] at ht
    simp only [List.getElem?_cons_zero, Option.some.injEq] at ht
    subst ht
    exact .inl ⟨rfl, rfl, hl.symm⟩
def lastL (ts : List Tk) (i : Nat) : Int := if i = 0 then 1 else (ts.getD (i - 1) tkZ).line
theorem lastL_step {ts : List Tk} {i : Nat} {t : Tk} (h : ts[i]? = some t) : lastL ts (i + 1) = t.line := by
  unfold lastL
  rw [if_neg (by omega), Nat.add_sub_cancel, List.getD_eq_getElem?_getD, h]
  rfl
theorem blk_low {n : Int} {ts : List Tk} (h : BlkOk n ts) {i : Nat} {t : Tk} (ht : ts[i]? = some t) : lastL ts i ≤ t.line ∧ t.line ≤ n := by
  obtain ⟨hi, e⟩ := List.getElem?_eq_some_iff.1 ht
  have h1 := h.low i hi
  rw [List.getD_eq_getElem?_getD (i := i), ht] at h1
  exact ⟨h1, h.high t (by rw [← e]; exact List.getElem_mem hi)⟩
theorem lastL_one {n : Int} {ts : List Tk} (h : BlkOk n ts) : ∀ i, i ≤ ts.length → 1 ≤ lastL ts i
  | 0, _ => by unfold lastL; simp
  | i + 1, hi => by
    have ht : ts[i]? = some ts[i] := List.getElem?_eq_getElem hi
    rw [lastL_step ht]
    have h1 := lastL_one h i (by omega)
    have h2 := (blk_low h ht).1
    omega
theorem vb_false {b : Bool} (h : b = false) : Value.bool b = Value.bool false := by rw [h]
set_option maxRecDepth 100000 in
set_option maxHeartbeats 8000000 in
theorem law_blocks (v1 : Value) (l : Bs) (w : World) (hr : R8 w v1 l) (hl : l.length ≤ 140737488351232) (htab : Lib.TabIs Tryd.prog w "strings.asciiSpace" .u8 Lib.asciiSpaceTab) :
    Calls Tryd.prog 4 #[v1] w fun e w' => e = .returned (.bool true) ∧ Below w.heap.size w w' := by
  have HR := Lib.hid hr
  have HTAB := Lib.hid htab
  obtain ⟨p, c, rfl, hat⟩ := r8_at hr
  have HAT := Lib.hid hat
  clear hr htab hat
  go_enter Tryd.func4, Tryd.ntmps4
  go_wp2_with fail
  refine (known04 w HTAB.out).mono ?_
  rintro e w1 ⟨rfl, hb1⟩
  have HB1 := Lib.hid hb1
  clear hb1
  go_wp2_with fail
  refine (lex_any _ l w1 (HR.out.keep HB1.out) (tabS_keep HTAB.out HB1.out)).mono ?_
  intro e w3 hlp
  obtain ⟨v5, la, ea, rfl⟩ := lexP_form hlp
  have HB3 := Lib.hid (HB1.out.trans (hlp.below.mono HB1.out.size))
  have HLP := Lib.hid hlp
  clear hlp
  go_wp2_with fail
  go_loopw [6, 7] (fun s6 s7 wr => ∃ (i n : Nat), s6 = .int .i64 n ∧ s7 = .int .i64 i ∧ i ≤ l.length ∧ n = rowN l i ∧ w3 = wr) (fun s6 s7 wr => l.length - (intOf s7).toNat)
  case atStart => exact ⟨0, 1, by go_num, by go_num, Nat.zero_le _, by simp [rowN], by first | rfl | trivial⟩
  case round =>
    obtain ⟨i, n, rfl, rfl, hi, hn, rfl⟩ := hrel
    have hn1 := rowN_le l i
    rw [← hn] at hn1
    have HN := Lib.hid hn
    clear hn
    by_cases hlt : i < l.length
    · obtain ⟨b, off, rfl, hcell⟩ := HAT.out (by omega)
      obtain ⟨x, hx, hc⟩ := hcell i hlt
      have hc3 := below_cell HB3.out hc
      have HS := Lib.hid (rowN_step hx)
      have hxr := x.toNat_lt
      have hlz : (i : Int) < (l.length : Int) := by omega
      have w1x : IntKind.i64.wrap ((i : Int) + 1) = (i : Int) + 1 := i64_in (by omega) (by omega)
      have w2x : IntKind.i64.wrap ((n : Int) + 1) = (n : Int) + 1 := i64_in (by omega) (by omega)
      by_cases h10 : x = 10
      · have hb10 : ((x.toNat : Int) == 10) = true := by rw [h10]; rfl
        have hS2 : rowN l (i + 1) = n + 1 := by rw [HS.out, if_pos h10, ← HN.out]
        have HS2 := Lib.hid hS2
        clear hcell hx hc h10 hS2
        go_wp2_with fail
        go_roundw
        case rel => exact ⟨i + 1, n + 1, by go_num, by go_num, by omega, HS2.out.symm, by first | rfl | trivial⟩
        case measure => simp [intOf]; omega
      · have hb10 : ((x.toNat : Int) == 10) = false := by
          have : x.toNat ≠ 10 := fun e => h10 (UInt8.toNat_inj.1 e)
          simp; omega
        have hS2 : rowN l (i + 1) = n := by rw [HS.out, if_neg h10, ← HN.out, Nat.add_zero]
        have HS2 := Lib.hid hS2
        clear hcell hx hc h10 hS2
        go_wp2_with fail
        go_roundw
        case rel => exact ⟨i + 1, n, by go_num, by go_num, by omega, HS2.out.symm, by first | rfl | trivial⟩
        case measure => simp [intOf]; omega
    · have hn2 : n = (splitB l).length := by rw [HN.out, rowN_all l (by omega)]
      have hlz : ¬ (i : Int) < (l.length : Int) := by omega
      cases hlx : lexD l with
      | error pq =>
        obtain ⟨pl, pe⟩ := pq
        rw [hlx] at HLP
        obtain ⟨h1, _⟩ := HLP.out
        simp only [Ending.returned.injEq, Value.tuple.injEq, Array.mk.injEq, List.cons.injEq, Value.int.injEq, true_and, and_true] at h1
        obtain ⟨rfl, rfl, rfl⟩ := h1
        rcases lexD_err hlx with ⟨h2, h3⟩ | ⟨h2, h3, h4, h5⟩
        · simp only [Prod.mk.injEq] at h3
          obtain ⟨rfl, rfl⟩ := h3
          have hz : (l.length : Int) > 20000 := by omega
          clear HLP hlx hn2
          go_wp2_with fail
          go_ret
          exact ⟨rfl, HB3.out⟩
        · simp only at h3 h4 h5
          have h6 : la ≤ (n : Int) := by rw [hn2]; exact h4
          clear HLP hlx hn2 h4
          rcases h5 with rfl | rfl
          all_goals
            go_wp2_with fail
            go_ret
            exact ⟨rfl, HB3.out⟩
      | ok ts =>
        rw [hlx] at HLP
        obtain ⟨v, h1, hown, _⟩ := HLP.out
        simp only [Ending.returned.injEq, Value.tuple.injEq, Array.mk.injEq, List.cons.injEq, Value.int.injEq, true_and, and_true] at h1
        obtain ⟨rfl, rfl, rfl⟩ := h1
        have hle := own_le hown
        unfold maxLen at hle
        have hne := lex_ne hlx
        obtain ⟨p5, c5, rfl, hc5, hcx⟩ := rt_form (Rt.of hown)
        have hpos : 0 < ts.length := List.length_pos_iff.2 hne
        obtain ⟨b5, o5, rfl, hcy⟩ := hcx hpos
        have hbk := lexD_blocks hlx
        rw [← hn2] at hbk
        have HBK := Lib.hid hbk
        have HCC := Lib.hid hcy
        obtain ⟨jl, hjl⟩ : ∃ j : Nat, j + 1 = ts.length := ⟨ts.length - 1, by omega⟩
        obtain ⟨pp, hpp, _⟩ := hbk.last
        have hjt : ts[jl]? = some ⟨0, (n : Int), []⟩ := by
          have : jl = pp.length := by rw [hpp] at hjl; simp at hjl; exact hjl
          rw [this, hpp, List.getElem?_append_right (Nat.le_refl _), Nat.sub_self]; rfl
        obtain ⟨x0, x1, x2⟩ := tok_kind HCC.out hjt
        simp only [show bsOf [] = (⟨#[]⟩ : ByteArray) from rfl] at x0 x1 x2
        have w1x : IntKind.i64.wrap ((ts.length : Int) - 1) = (jl : Int) := by
          have e : (ts.length : Int) - 1 = (jl : Int) := by omega
          rw [e]; exact i64_in (by omega) (by omega)
        have hjz : (jl : Int) < (ts.length : Int) := by omega
        have hz0 : ((ts.length : Int) == 0) = false := by simp; omega
        have HJL := Lib.hid hjl
        have HSH := Lib.hid hbk.shut
        have HTX := Lib.hid (fun (t : Tk) (ht : t ∈ ts) => Nat.le_trans (txSum_mem ht) (Nat.le_trans (lexD_txt hlx).1 (lexD_txt hlx).2))
        clear HLP hlx hn2 hne hown hcx hcy hbk hpp hjt hjl
        go_wp2_with fail
        clear w1x x0 x1 x2
        have hle2 : (ts.length : Int) ≤ 9223372036854775807 := by omega
        go_loopw [8, 9, 10] (fun s8 s9 s10 wr => ∃ (k : Nat) (dp ls : Int), s8 = .int .i64 dp ∧ s9 = .int .i64 ls ∧ s10 = .int .i64 k ∧ k ≤ ts.length ∧ dp = dpt (ts.take k) ∧ ls = lastL ts k ∧ Below w3.heap.size w3 wr) (fun s8 s9 s10 wr => ts.length - (intOf s10).toNat)
        case atStart => exact ⟨0, 0, 1, by go_num, by go_num, by go_num, Nat.zero_le _, by simp [dpt], by simp [lastL], Below.refl _ _⟩
        case round =>
          obtain ⟨k, dp, ls, rfl, rfl, rfl, hk, hdp, hls, hbr⟩ := hrel
          have HBR := Lib.hid hbr
          have hrs := hbr.size
          have hl1 := lastL_one HBK.out k hk
          rw [← hls] at hl1
          have hd0 := HBK.out.deep k hk
          have hd1 := dpt_le (ts.take k)
          have hd2 := List.length_take_le k ts
          rw [← hdp] at hd0 hd1
          by_cases hlt2 : k < ts.length
          · have w1x : IntKind.i64.wrap ((k : Int) + 1) = (k : Int) + 1 := i64_in (by omega) (by omega)
            have ht : ts[k]? = some ts[k] := List.getElem?_eq_getElem hlt2
            obtain ⟨t, htt⟩ : ∃ t, ts[k] = t := ⟨_, rfl⟩
            rw [htt] at ht
            obtain ⟨y0', y1', y2'⟩ := tok_kind HCC.out ht
            have y0 := below_cell HBR.out y0'
            have y1 := below_cell HBR.out y1'
            have y2 := below_cell HBR.out y2'
            clear y0' y1' y2'
            have hlow := blk_low HBK.out ht
            rw [← hls] at hlow
            have hkk := blk_tok HBK.out ht
            have HD := Lib.hid (dpt_step ht)
            have HL := Lib.hid (lastL_step ht)
            have hd3 := HBK.out.deep (k + 1) (by omega)
            rw [dpt_step ht, ← hdp] at hd3
            have HDP := Lib.hid hdp
            have HTL := Lib.hid (HTX.out t (by rw [← htt]; exact List.getElem_mem hlt2))
            clear hdp hls hbr htt ht
            obtain ⟨kd, ld, tx⟩ := t
            simp only at y0 y1 y2 hlow hkk HL
            obtain ⟨hlow1, hlow2⟩ := hlow
            have hz2 : (k : Int) < (ts.length : Int) := by omega
            have hkd : (kd = 0 ∧ tx = [] ∧ k + 1 = ts.length) ∨ (kd = 1 ∧ tx = []) ∨ (kd = 2 ∧ tx = []) ∨ (kd = 3 ∧ tx = []) ∨ (kd = 4 ∧ isNameB tx = true) ∨ kd = 5 ∨ kd = 6 ∨ kd = 7 ∨ (kd = 8 ∧ wordsB.contains tx = true) ∨ (kd = 9 ∧ symsB.contains tx = true) := by
              rcases hkk with ⟨h1, h2, h3⟩ | ⟨h1, h2, h3, h4, h5, h6⟩
              · exact .inl ⟨h1, h2, h3⟩
              · simp only at h1 h2 h3 h4 h5 h6
                have hc : kd = 1 ∨ kd = 2 ∨ kd = 3 ∨ kd = 4 ∨ kd = 5 ∨ kd = 6 ∨ kd = 7 ∨ kd = 8 ∨ kd = 9 := by omega
                rcases hc with h | h | h | h | h | h | h | h | h
                · exact .inr (.inl ⟨h, h3 (by omega)⟩)
                · exact .inr (.inr (.inl ⟨h, h3 (by omega)⟩))
                · exact .inr (.inr (.inr (.inl ⟨h, h3 (by omega)⟩)))
                · exact .inr (.inr (.inr (.inr (.inl ⟨h, h4 h⟩))))
                · exact .inr (.inr (.inr (.inr (.inr (.inl h)))))
                · exact .inr (.inr (.inr (.inr (.inr (.inr (.inl h))))))
                · exact .inr (.inr (.inr (.inr (.inr (.inr (.inr (.inl h)))))))
                · exact .inr (.inr (.inr (.inr (.inr (.inr (.inr (.inr (.inl ⟨h, h5 h⟩))))))))
                · exact .inr (.inr (.inr (.inr (.inr (.inr (.inr (.inr (.inr ⟨h, h6 h⟩))))))))
            have he0 : (bsOf []).toList = [] := by simp [bsOf]
            have hdz : dp ≤ 9223372036854775806 := by omega
            have hls0 : 0 ≤ ls := by omega
            have hld0 : 0 ≤ ld := by omega
            have hld9 : ld ≤ 140737488351300 := by omega
            have htxl : ts.length ≤ 9223372036854775807 := by omega
            have HK := Lib.hid (show k + 1 ≤ ts.length by omega)
            have HRS := Lib.hid hrs
            clear hkk hl hi hn1 hlt hle hc5 hpos hjz hz0 hlz hle2 hk hl1 hd1 hd2 hrs hlt2
            have hk0 : 0 ≤ kd := by omega
            have hk9 : kd ≤ 9 := by omega
            have hkz : kd = 0 → k + 1 = ts.length := by
              intro h0
              rcases hkd with h | h | h | h | h | h | h | h | h | h
              · exact h.2.2
              all_goals omega
            have HKZ := Lib.hid hkz
            have HKD := Lib.hid hkd
            have HD3 := Lib.hid hd3
            have w2x : IntKind.i64.wrap ((ts.length : Int) - 1) = (jl : Int) := by
              have e : (ts.length : Int) - 1 = (jl : Int) := by have := HJL.out; omega
              rw [e]; exact i64_in (by omega) (by omega)
            have HJK := Lib.hid (show kd = 0 → ¬ ((k : Int) < (jl : Int)) from fun h0 => by have h1 := hkz h0; have h2 := HJL.out; omega)
            have HDL := Lib.hid (show dpt (ts.take (k + 1)) = dp + dlt ⟨kd, ld, tx⟩ by rw [HD.out, ← HDP.out])
            clear hkz hkd hd3
            go_upto_region 21 with fail
            obtain ⟨W9, hW9⟩ : ∃ W, wr.alloc (.cells #[.int .i64 kd, .int .i64 ld, .string (bsOf tx)] 33) = W := ⟨_, rfl⟩
            obtain ⟨z0, z1, z2⟩ := alloc3 _ _ _ _ _ _ hW9
            have HB9 := Lib.hid (show Below w3.heap.size w3 W9 by rw [← hW9]; exact HBR.out.alloc HRS.out _)
            rw [hW9]
            clear hW9 y0 y1 y2
            go_cut [128] from 97 to 129 (fun s wx => s = .bool false ∧ W9 = wx)
            case first =>
              by_cases h0 : kd = 0
              · have hz5 := HJK.out h0
                subst h0
                go_wp2_with fail
                go_meet
                exact ⟨vb_false (by simp; omega), rfl⟩
              · have hb0 : (kd == 0) = false := by simpa using h0
                clear w1x w2x
                go_wp2_with fail
                go_meet
                exact ⟨vb_false (by simp; omega), rfl⟩
            case rest =>
              obtain ⟨rfl, rfl⟩ := hcut
              clear w2x
              by_cases h2 : kd = 2
              · have htx : tx = [] := by rcases HKD.out with h | h | h | h | h | h | h | h | h | h <;> first | exact h.2 | exact h.2.1 | omega
                subst h2
                subst htx
                have hv : dpt (ts.take (k + 1)) = dp + 1 := by rw [HDL.out]; rfl
                have HV := Lib.hid hv
                have w3x : IntKind.i64.wrap (dp + 1) = dp + 1 := i64_in (by omega) (by omega)
                have hd4 : 0 ≤ dp + 1 := by omega
                clear hv
                go_wp2_with fail
                go_roundw
                case rel => exact ⟨k + 1, dp + 1, ld, by go_num, by go_num, by go_num, HK.out, HV.out.symm, HL.out.symm, HB9.out⟩
                case measure => simp [intOf]; omega
              · by_cases h3 : kd = 3
                · have htx : tx = [] := by rcases HKD.out with h | h | h | h | h | h | h | h | h | h <;> first | exact h.2 | exact h.2.1 | omega
                  subst h3
                  subst htx
                  have hv : dpt (ts.take (k + 1)) = dp - 1 := by rw [HDL.out]; rfl
                  have hd4 : 0 ≤ dp - 1 := by have h := HD3.out; rw [show dlt ⟨3, ld, []⟩ = -1 from rfl] at h; omega
                  have hd5 : 1 ≤ dp := by omega
                  have HV := Lib.hid hv
                  have w3x : IntKind.i64.wrap (dp - 1) = dp - 1 := i64_in (by omega) (by omega)
                  clear hv
                  go_wp2_with fail
                  go_roundw
                  case rel => exact ⟨k + 1, dp - 1, ld, by go_num, by go_num, by go_num, HK.out, HV.out.symm, HL.out.symm, HB9.out⟩
                  case measure => simp [intOf]; omega
                · have hb2 : (kd == 2) = false := by simpa using h2
                  have hb3 : (kd == 3) = false := by simpa using h3
                  have hv : dpt (ts.take (k + 1)) = dp := by rw [HDL.out]; simp [dlt, h2, h3]
                  have HV := Lib.hid hv
                  clear hv
                  go_upto_region 29 with fail
                  have HKT := HKD.out
                  have hcase : (kd < 4 ∧ tx = []) ∨ (kd = 4 ∧ isNameB tx = true) ∨ (4 < kd ∧ kd < 8) ∨ (kd = 8 ∧ wordsB.contains tx = true) ∨ (kd = 9 ∧ symsB.contains tx = true) := by
                    rcases HKT with ⟨h, h', _⟩ | ⟨h, h'⟩ | ⟨h, h'⟩ | ⟨h, h'⟩ | ⟨h, hnm⟩ | h | h | h | ⟨h, hwd⟩ | ⟨h, hsy⟩
                    · exact .inl ⟨by omega, h'⟩
                    · exact .inl ⟨by omega, h'⟩
                    · exact .inl ⟨by omega, h'⟩
                    · exact .inl ⟨by omega, h'⟩
                    · exact .inr (.inl ⟨h, hnm⟩)
                    · exact .inr (.inr (.inl ⟨by omega, by omega⟩))
                    · exact .inr (.inr (.inl ⟨by omega, by omega⟩))
                    · exact .inr (.inr (.inl ⟨by omega, by omega⟩))
                    · exact .inr (.inr (.inr (.inl ⟨h, hwd⟩)))
                    · exact .inr (.inr (.inr (.inr ⟨h, hsy⟩)))
                  clear HKT
                  rcases hcase with ⟨hk4, rfl⟩ | ⟨rfl, hnm⟩ | ⟨hk4, hk8⟩ | ⟨rfl, hwd⟩ | ⟨rfl, hsy⟩
                  · have b4 : (kd == 4) = false := by simp; omega
                    have b8 : (kd == 8) = false := by simp; omega
                    have b9 : (kd == 9) = false := by simp; omega
                    go_wp2_with fail
                    go_roundw
                    case rel => exact ⟨k + 1, dp, ld, by go_num, by go_num, by go_num, HK.out, HV.out.symm, HL.out.symm, HB9.out⟩
                    case measure => simp [intOf]; omega
                  · have HNM := Lib.hid (fun wx => isname_yes tx wx hnm (Nat.le_trans HTL.out (by decide)))
                    clear hnm
                    go_wp2_with (first | (go_at_call 13; (with_reducible refine (HNM.out _).mono ?_); rintro e w9 ⟨rfl, hw9⟩; (have hw8 := hw9.symm; clear hw9; subst hw8)) | fail)
                    go_roundw
                    case rel => exact ⟨k + 1, dp, ld, by go_num, by go_num, by go_num, HK.out, HV.out.symm, HL.out.symm, HB9.out⟩
                    case measure => simp [intOf]; omega
                  · have b4 : (kd == 4) = false := by simp; omega
                    have b8 : (kd == 8) = false := by simp; omega
                    have b9 : (kd == 9) = false := by simp; omega
                    go_wp2_with fail
                    go_roundw
                    case rel => exact ⟨k + 1, dp, ld, by go_num, by go_num, by go_num, HK.out, HV.out.symm, HL.out.symm, HB9.out⟩
                    case measure => simp [intOf]; omega
                  · have HWD := Lib.hid (fun wx => isword_any tx wx)
                    rw [hwd] at HWD
                    clear hwd
                    go_wp2_with (first | (go_at_call 14; (with_reducible refine (HWD.out _).mono ?_); rintro e w9 ⟨rfl, hw9⟩; (have hw8 := hw9.symm; clear hw9; subst hw8)) | fail)
                    go_roundw
                    case rel => exact ⟨k + 1, dp, ld, by go_num, by go_num, by go_num, HK.out, HV.out.symm, HL.out.symm, HB9.out⟩
                    case measure => simp [intOf]; omega
                  · have HSY := Lib.hid (fun wx => issymbol_any tx wx)
                    rw [hsy] at HSY
                    clear hsy
                    go_wp2_with (first | (go_at_call 15; (with_reducible refine (HSY.out _).mono ?_); rintro e w9 ⟨rfl, hw9⟩; (have hw8 := hw9.symm; clear hw9; subst hw8)) | fail)
                    go_roundw
                    case rel => exact ⟨k + 1, dp, ld, by go_num, by go_num, by go_num, HK.out, HV.out.symm, HL.out.symm, HB9.out⟩
                    case measure => simp [intOf]; omega
          · obtain rfl : k = ts.length := by omega
            have hdz : dp = 0 := by rw [hdp, List.take_of_length_le (Nat.le_refl _)]; exact HSH.out
            subst hdz
            clear hdp hls
            go_wp2_with fail
            go_ret
            exact ⟨rfl, HB3.out.trans (HBR.out.mono HB3.out.size)⟩
end Go.Proofs.YtcjomeghcihecaaDoor
