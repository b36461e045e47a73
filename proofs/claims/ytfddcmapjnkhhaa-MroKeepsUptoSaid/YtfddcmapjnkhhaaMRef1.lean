/- Layer 19, the document's answer: Has, Fit, first. -/
import Derived.Test.YtfddcmapjnkhhaaMRd
import Derived.Test.YtfddcmapjnkhhaaMPure
import Derived.Test.YtfddcmapjnkhhaaProg
import Derived.Deep.QuietTactic
import Derived.BigQuiet
import Derived.Lib.Hide
namespace Go.Proofs.Ytfddcmapjnkhhaa
open Go.ChangeShapes Go.WideShapes Go.RowKit
set_option linter.unusedVariables false
set_option linter.unusedSimpArgs false
theorem hasFrom_yes {l : List Int} {k i : Nat} {n : Int} (hk : k ≤ i) (hi : i < l.length) (he : l.getD i 0 = n) : hasFrom l k n = true := by
  unfold hasFrom
  rw [List.contains_iff_mem]
  have e : (l.drop k)[i - k]? = some n := by
    rw [List.getElem?_drop, show k + (i - k) = i by omega, List.getElem?_eq_getElem hi, ← he]
    simp [List.getD_eq_getElem?_getD, hi]
  exact List.mem_of_getElem? e
theorem hasFrom_no {l : List Int} {k : Nat} {n : Int} (h : ∀ j, k ≤ j → j < l.length → l.getD j 0 ≠ n) : hasFrom l k n = false := by
  unfold hasFrom
  rw [Bool.eq_false_iff]
  intro hc
  rw [List.contains_iff_mem] at hc
  obtain ⟨i, hi⟩ := List.getElem?_of_mem hc
  rw [List.getElem?_drop] at hi
  have hl : k + i < l.length := (List.getElem?_eq_some_iff.1 hi).1
  exact h (k + i) (by omega) hl (by simp [List.getD_eq_getElem?_getD, hi])
theorem hasFrom_mem {l : List Int} {k : Nat} {n : Int} : hasFrom l k n = true ↔ n ∈ l.drop k := by
  unfold hasFrom; rw [List.contains_iff_mem]
set_option maxRecDepth 100000 in
set_option maxHeartbeats 1000000 in
theorem has_any (u : Value) (l : List Int) (k : Nat) (n : Int) (w : World) (h : Ri w u l) (hk : k ≤ 17592186043905) :
    Calls Try.prog 11 #[u, .int .i64 (k : Int), .int .i64 n] w fun e w' => e = .returned (.bool (hasFrom l k n)) ∧ w = w' := by
  obtain ⟨p, c, rfl, hc, hm, hp⟩ := ri_form h
  have HP := Lib.hid hp
  clear hp h
  go_enter Try.func11, Try.ntmps11
  go_wp2
  go_loop [7] (fun s => ∃ i : Nat, s = .int .i64 i ∧ k ≤ i ∧ (i ≤ k ∨ i ≤ l.length) ∧ ∀ j, k ≤ j → j < i → l.getD j 0 ≠ n) (fun s => l.length + k + 1 - (intOf s).toNat)
  case atStart => exact ⟨k, rfl, Nat.le_refl _, .inl (Nat.le_refl _), fun j h1 h2 => by omega⟩
  case round =>
    obtain ⟨i, rfl, hki, hil, hno⟩ := hrel
    have HN := Lib.hid hno
    clear hno
    by_cases hlt : i < l.length
    · obtain ⟨b, off, rfl, hcell⟩ := HP.out (by omega)
      have hci := hcell i hlt
      have HX : Hid (l.getD i 0 = l.getD i 0) := Lib.hid rfl
      obtain ⟨x, hx⟩ : ∃ x, l.getD i 0 = x := ⟨_, rfl⟩
      rw [hx] at hci
      have HXE := Lib.hid hx
      have hlz : (i : Int) < (l.length : Int) := by omega
      clear hcell hx HX
      by_cases he : x = n
      · subst he
        have HY := Lib.hid (hasFrom_yes hki hlt HXE.out)
        go_wp2
        go_ret
        exact ⟨ret_b HY.out.symm, rfl⟩
      · have hne : (x == n) = false := by rw [beq_eq_false_iff_ne]; exact he
        have HNE := Lib.hid he
        clear he
        go_wp2
        go_round
        case rel => exact ⟨i + 1, by go_num, by omega, .inr (by omega), fun j h1 h2 => by
          by_cases e : j = i
          · subst e; rw [HXE.out]; exact HNE.out
          · exact HN.out j h1 (by omega)⟩
        case measure => simp [intOf]; omega
    · have hlz : ¬ (i : Int) < (l.length : Int) := by omega
      have HY := Lib.hid (hasFrom_no (l := l) (k := k) (n := n) fun j h1 h2 => HN.out j h1 (by omega))
      go_wp2
      go_ret
      exact ⟨ret_b HY.out.symm, rfl⟩
theorem nodup_of : ∀ {l : List Int}, (∀ j, j < l.length → hasFrom l (j + 1) (l.getD j 0) = false) → l.Nodup
  | [], _ => List.Pairwise.nil
  | x :: r, h => by
    refine List.nodup_cons.2 ⟨fun hm => ?_, nodup_of fun j hj => ?_⟩
    · have h0 := h 0 (by simp)
      have : hasFrom (x :: r) 1 x = true := hasFrom_mem.2 (by simpa using hm)
      simp at h0
      rw [this] at h0
      cases h0
    · have h1 := h (j + 1) (by simpa using hj)
      simpa [hasFrom] using h1
theorem not_nodup {l : List Int} {j : Nat} (hj : j < l.length) (h : hasFrom l (j + 1) (l.getD j 0) = true) : ¬ l.Nodup := by
  intro hn
  have hm := hasFrom_mem.1 h
  have e : l.drop j = l.getD j 0 :: l.drop (j + 1) := by
    rw [List.drop_eq_getElem_cons hj]
    simp [List.getD_eq_getElem?_getD, hj]
  have h2 : (l.drop j).Nodup := hn.sublist (List.drop_sublist j l)
  rw [e] at h2
  exact (List.nodup_cons.1 h2).1 hm
theorem fitAt_of {c : Nat} {l : List Int} (h : ∀ j, j < l.length → 0 ≤ l.getD j 0 ∧ l.getD j 0 < (c : Int) ∧ hasFrom l (j + 1) (l.getD j 0) = false) : FitAt c l := by
  refine ⟨fun b hb => ?_, nodup_of fun j hj => (h j hj).2.2⟩
  obtain ⟨j, hj⟩ := List.getElem?_of_mem hb
  have hl := (List.getElem?_eq_some_iff.1 hj).1
  have := h j hl
  simp [List.getD_eq_getElem?_getD, hj] at this
  exact ⟨this.1, this.2.1⟩
theorem fitAt_at {c : Nat} {l : List Int} (h : FitAt c l) {j : Nat} (hj : j < l.length) : 0 ≤ l.getD j 0 ∧ l.getD j 0 < (c : Int) :=
  h.1 _ (by simp [List.getD_eq_getElem?_getD, hj])
noncomputable def fitB (bs : List (List Int)) : Bool := @decide (FitP bs) (Classical.propDecidable _)
theorem fitB_yes {bs : List (List Int)} (h : FitP bs) : fitB bs = true := by unfold fitB; simp [h]
theorem fitB_no {bs : List (List Int)} (h : ¬ FitP bs) : fitB bs = false := by unfold fitB; simp [h]
theorem fitB_iff {bs : List (List Int)} : fitB bs = true ↔ FitP bs := by unfold fitB; simp
theorem fit_not {bs : List (List Int)} {c : Nat} (hc : c < bs.length) (h : ¬ FitAt c (bs.getD c [])) : fitB bs = false := fitB_no fun hf => h (hf c hc)
set_option maxRecDepth 100000 in
set_option maxHeartbeats 4000000 in
theorem reffit_any (u : Value) (bs : List (List Int)) (w : World) (h : Rm w u bs) (hm : bs.length ≤ 1000) (hml : ∀ i, (bs.getD i []).length ≤ 17592186043904) :
    Calls Try.prog 17 #[u] w fun e w' => e = .returned (.bool (fitB bs)) ∧ w = w' := by
  obtain ⟨p, c, rfl, hc, _, hp⟩ := rm_form h
  have HP := Lib.hid hp
  clear hp h
  go_enter Try.func17, Try.ntmps17
  go_wp2
  go_loop [3, 4, 5] (fun s a b => ∃ i : Nat, s = .int .i64 i ∧ i ≤ bs.length ∧ ∀ j, j < i → FitAt j (bs.getD j [])) (fun s _ _ => bs.length - (intOf s).toNat)
  case atStart => exact ⟨0, rfl, Nat.zero_le _, fun j h => by omega⟩
  case round =>
    obtain ⟨i, rfl, hil, hf⟩ := hrel
    have HF := Lib.hid hf
    clear hf
    by_cases hlt : i < bs.length
    · obtain ⟨b, off, rfl, hcell⟩ := HP.out (by omega)
      obtain ⟨v, hci, hr⟩ := hcell i hlt
      have HR := Lib.hid hr
      obtain ⟨l, hl⟩ : ∃ l, bs.getD i [] = l := ⟨_, rfl⟩
      rw [hl] at hr HR
      have HL := Lib.hid hl
      obtain ⟨p2, c2, rfl, hc2, hm2, hp2⟩ := ri_form hr
      have HP2 := Lib.hid hp2
      have hlz : (i : Int) < (bs.length : Int) := by omega
      clear hcell hr hl hp2
      go_wp2
      go_loop [5] (fun s => ∃ j : Nat, s = .int .i64 j ∧ j ≤ l.length ∧ ∀ q, q < j → 0 ≤ l.getD q 0 ∧ l.getD q 0 < (i : Int) ∧ hasFrom l (q + 1) (l.getD q 0) = false) (fun s => l.length - (intOf s).toNat)
      case atStart => exact ⟨0, rfl, Nat.zero_le _, fun q h => by omega⟩
      case round =>
        obtain ⟨j, rfl, hjl, hg⟩ := hrel
        have HG := Lib.hid hg
        clear hg
        by_cases hjt : j < l.length
        · obtain ⟨b2, off2, rfl, hcell2⟩ := HP2.out (by omega)
          have hcj := hcell2 j hjt
          have hjz : (j : Int) < (l.length : Int) := by omega
          obtain ⟨x, hx⟩ : ∃ x, l.getD j 0 = x := ⟨_, rfl⟩
          rw [hx] at hcj
          have HX := Lib.hid hx
          clear hcell2 hx
          by_cases h0 : x < 0
          · have HY := Lib.hid (fit_not (bs := bs) hlt (fun hf => by rw [HL.out] at hf; have := (fitAt_at hf hjt).1; rw [HX.out] at this; omega))
            go_wp2
            go_ret
            exact ⟨ret_b HY.out.symm, rfl⟩
          · by_cases h1 : (i : Int) ≤ x
            · have HY := Lib.hid (fit_not (bs := bs) hlt (fun hf => by rw [HL.out] at hf; have := (fitAt_at hf hjt).2; rw [HX.out] at this; omega))
              go_wp2
              go_ret
              exact ⟨ret_b HY.out.symm, rfl⟩
            · have HH := Lib.hid (has_any _ l (j + 1) x w HR.out (by omega))
              have hcast : ((j + 1 : Nat) : Int) = (j : Int) + 1 := by omega
              rw [hcast] at HH
              clear hcast
              cases hh : hasFrom l (j + 1) x with
              | true =>
                have HY := Lib.hid (fit_not (bs := bs) hlt (fun hf => by rw [HL.out] at hf; exact not_nodup hjt (by rw [HX.out]; exact hh) hf.2))
                have HHT := Lib.hid hh
                rw [hh] at HH
                clear hh
                go_wp2_with (go_at_call 11; (with_reducible refine HH.out.mono ?_); rintro e w' ⟨rfl, rfl⟩)
                go_ret
                exact ⟨ret_b HY.out.symm, rfl⟩
              | false =>
                have HHT := Lib.hid hh
                rw [hh] at HH
                clear hh
                go_wp2_with (go_at_call 11; (with_reducible refine HH.out.mono ?_); rintro e w' ⟨rfl, rfl⟩)
                go_round
                case rel => exact ⟨j + 1, by go_num, by omega, fun q hq => by
                  by_cases e : q = j
                  · subst e; rw [HX.out]; exact ⟨by omega, by omega, HHT.out⟩
                  · exact HG.out q (by omega)⟩
                case measure => simp [intOf]; omega
        · have hjz : ¬ (j : Int) < (l.length : Int) := by omega
          have HFA := Lib.hid (show FitAt i l from fitAt_of fun q hq => HG.out q (by omega))
          go_wp2
          go_round
          case rel => exact ⟨i + 1, by go_num, by omega, fun q hq => by
            by_cases e : q = i
            · subst e; rw [HL.out]; exact HFA.out
            · exact HF.out q (by omega)⟩
          case measure => simp [intOf]; omega
    · have hlz : ¬ (i : Int) < (bs.length : Int) := by omega
      have HY := Lib.hid (fitB_yes (bs := bs) fun j hj => HF.out j (by omega))
      go_wp2
      go_ret
      exact ⟨ret_b HY.out.symm, rfl⟩
theorem ret_int {k : IntKind} {a b : Int} (h : a = b) : Ending.returned (.int k a) = .returned (.int k b) := by rw [h]
def firstI (ls : List (List Int)) : Int := match firstL ls with
  | some n => n
  | none => -1
theorem first_at {ls : List (List Int)} {f : List Int → Option Int} {i : Nat} {n : Int} (hi : i < ls.length) (h : (ls.take i).findSome? f = none) (hx : f (ls.getD i []) = some n) : ls.findSome? f = some n := by
  have e : ls = ls.take i ++ ls.getD i [] :: ls.drop (i + 1) := by
    conv => lhs; rw [← List.take_append_drop i ls, List.drop_eq_getElem_cons hi]
    simp [List.getD_eq_getElem?_getD, hi]
  rw [e, List.findSome?_append, h, List.findSome?_cons, hx]
  rfl
theorem first_next {ls : List (List Int)} {f : List Int → Option Int} {i : Nat} (hi : i < ls.length) (h : (ls.take i).findSome? f = none) (hx : f (ls.getD i []) = none) : (ls.take (i + 1)).findSome? f = none := by
  rw [List.take_succ_eq_append_getElem hi, List.findSome?_append, h]
  have : ls[i] = ls.getD i [] := by simp [List.getD_eq_getElem?_getD, hi]
  rw [this, List.findSome?_cons, hx]
  rfl
theorem cand_no {ls : List (List Int)} {l : List Int} {x : Int} (hl : 0 < l.length) (hx : l.getD 0 0 = x) (h : inTail ls x = true) : cand ls l = none := by
  cases l with
  | nil => simp at hl
  | cons y r => simp at hx; subst hx; simp [cand, h]
theorem cand_yes {ls : List (List Int)} {l : List Int} {x : Int} (hl : 0 < l.length) (hx : l.getD 0 0 = x) (h : inTail ls x = false) : cand ls l = some x := by
  cases l with
  | nil => simp at hl
  | cons y r => simp at hx; subst hx; simp [cand, h]
theorem bnext1 {a b : Bool} (h : false = !a) : false = !(a || b) := by cases a <;> simp_all
theorem bnext2 {a b : Bool} (h : true = !a) : (!b) = !(a || b) := by cases a <;> simp_all
theorem any_next {ls : List (List Int)} {f : List Int → Bool} {k : Nat} (hk : k < ls.length) : (ls.take (k + 1)).any f = ((ls.take k).any f || f (ls.getD k [])) := by
  rw [List.take_succ_eq_append_getElem hk, List.any_append]
  simp [List.getD_eq_getElem?_getD, hk]
set_option maxRecDepth 100000 in
set_option maxHeartbeats 4000000 in
theorem first_any (u : Value) (ls : List (List Int)) (w : World) (h : Rm w u ls) (hm : ls.length ≤ 1000) :
    Calls Try.prog 24 #[u] w fun e w' => e = .returned (.int .i64 (firstI ls)) ∧ ∃ q, w' = w.drewN q := by
  obtain ⟨p, c, rfl, hc, _, hp⟩ := rm_form h
  have HP := Lib.hid hp
  clear hp h
  go_enter Try.func24, Try.ntmps24
  go_wp2
  go_loopw [3, 4, 5] (fun s a b wr => ∃ i q : Nat, s = .int .i64 i ∧ i ≤ ls.length ∧ (ls.take i).findSome? (cand ls) = none ∧ wr = w.drewN q) (fun s _ _ _ => ls.length - (intOf s).toNat)
  case atStart => exact ⟨0, 0, rfl, Nat.zero_le _, rfl, rfl⟩
  case round =>
    obtain ⟨i, q, rfl, hil, hf, rfl⟩ := hrel
    have HF := Lib.hid hf
    clear hf
    by_cases hlt : i < ls.length
    · obtain ⟨b, off, rfl, hcell⟩ := HP.out (by omega)
      obtain ⟨v, hci, hr⟩ := hcell i hlt
      have HR := Lib.hid hr
      obtain ⟨l, hl⟩ : ∃ l, ls.getD i [] = l := ⟨_, rfl⟩
      rw [hl] at hr HR
      have HL := Lib.hid hl
      obtain ⟨p2, c2, rfl, hc2, hm2, hp2⟩ := ri_form hr
      have HP2 := Lib.hid hp2
      have hlz : (i : Int) < (ls.length : Int) := by omega
      clear hcell hr hl hp2
      by_cases hl0 : l.length = 0
      · obtain rfl : l = [] := List.length_eq_zero_iff.1 hl0
        go_wp2
        go_roundw
        case rel => exact ⟨i + 1, q, by go_num, by omega, first_next hlt HF.out (by rw [HL.out]; rfl), rfl⟩
        case measure => simp [intOf]; omega
      · obtain ⟨b2, off2, rfl, hcell2⟩ := HP2.out (by omega)
        have hcx := hcell2 0 (by omega)
        rw [Nat.add_zero] at hcx
        obtain ⟨x, hx⟩ : ∃ x, l.getD 0 0 = x := ⟨_, rfl⟩
        rw [hx] at hcx
        have HX := Lib.hid hx
        have hlp : 0 < l.length := by omega
        have hlz2 : (0 : Int) < (l.length : Int) := by omega
        have hln : ((l.length : Int) == 0) = false := by rw [beq_eq_false_iff_ne]; omega
        clear hcell2 hx hl0
        go_wp2
        go_loopw [4, 5] (fun a s wr => ∃ (k q : Nat) (fr : Bool), s = .int .i64 k ∧ k ≤ ls.length ∧ a = .bool fr ∧ fr = !((ls.take k).any fun l => hasFrom l 1 x) ∧ wr = w.drewN q) (fun _ s _ => ls.length - (intOf s).toNat)
        case atStart => exact ⟨0, q, true, rfl, Nat.zero_le _, rfl, rfl, rfl⟩
        case round =>
          obtain ⟨k, q2, fr, rfl, hkl, rfl, hfr, rfl⟩ := hrel
          have HFR := Lib.hid hfr
          clear hfr
          by_cases hkt : k < ls.length
          · obtain ⟨v3, hck, hr3⟩ := (HP.out (by omega)).elim fun b' h => h.elim fun off' h => (by
              obtain ⟨h1, h2⟩ := h
              simp only [Option.some.injEq, Addr.mk.injEq, and_true] at h1
              obtain ⟨rfl, rfl⟩ := h1
              exact h2 k hkt)
            obtain ⟨l3, hl3⟩ : ∃ l3, ls.getD k [] = l3 := ⟨_, rfl⟩
            rw [hl3] at hr3
            have HL3 := Lib.hid hl3
            obtain ⟨p3, c3, rfl, _, _, _⟩ := ri_form hr3
            have HR3 := Lib.hid hr3
            have hkz : (k : Int) < (ls.length : Int) := by omega
            have HA := Lib.hid (any_next (f := fun l => hasFrom l 1 x) hkt)
            clear hl3 hr3
            cases fr with
            | false =>
              go_wp2
              go_quiet (fail)
              go_wp2
              go_roundw
              case rel => exact ⟨k + 1, _, false, by go_num, by omega, rfl, by rw [HA.out]; exact bnext1 HFR.out, rfl⟩
              case measure => simp [intOf]; omega
            | true =>
              have HH := Lib.hid (show ∀ n, Calls Try.prog 11 #[.slice p3 l3.length c3, .int .i64 1, .int .i64 x] (w.drewN (q2 + n)) (fun e w' => e = .returned (.bool (hasFrom l3 1 x)) ∧ w' = w.drewN (q2 + n)) from fun n => (has_any _ l3 1 x (w.drewN (q2 + n)) HR3.out (by omega)).mono fun e w' h => ⟨h.1, h.2.symm⟩)
              go_wp2
              go_quiet ((go_at_call 11; exact (HH.out _).mono fun e w' h => ⟨h.1, _, h.2⟩))
              go_wp2
              go_roundw
              case rel => exact ⟨k + 1, _, !(hasFrom l3 1 x), by go_num, by omega, rfl, by rw [HA.out, HL3.out]; exact bnext2 HFR.out, rfl⟩
              case measure => simp [intOf]; omega
          · have hkz : ¬ (k : Int) < (ls.length : Int) := by omega
            have hta : fr = !(inTail ls x) := by have h := HFR.out; rwa [List.take_of_length_le (by omega)] at h
            cases fr with
            | false =>
              have HIN := Lib.hid (show inTail ls x = true by simpa using hta)
              clear hta
              go_wp2
              go_roundw
              case rel => exact ⟨i + 1, _, by go_num, by omega, first_next hlt HF.out (by rw [HL.out]; exact cand_no hlp HX.out HIN.out), rfl⟩
              case measure => simp [intOf]; omega
            | true =>
              have HY := Lib.hid (show firstI ls = x from by
                unfold firstI firstL
                rw [first_at hlt HF.out (by rw [HL.out]; exact cand_yes hlp HX.out (by simpa using hta))])
              clear hta
              go_wp2
              go_ret
              exact ⟨ret_int HY.out.symm, _, rfl⟩
    · have hlz : ¬ (i : Int) < (ls.length : Int) := by omega
      have HY := Lib.hid (show firstI ls = -1 from by
        have h := HF.out
        rw [List.take_of_length_le (by omega)] at h
        unfold firstI firstL
        rw [h])
      go_wp2
      go_ret
      exact ⟨ret_int HY.out.symm, q, rfl⟩
end Go.Proofs.Ytfddcmapjnkhhaa
