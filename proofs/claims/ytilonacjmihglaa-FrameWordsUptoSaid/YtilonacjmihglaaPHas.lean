/- Layer 14, the document's: is a number in a rising list (has); are memory and roots right (Right). -/
import Derived.Test.YtilonacjmihglaaPSameInts
import Derived.Test.YtilonacjmihglaaPGRefAll
import Derived.Test.YtilonacjmihglaaPLawObjects
import Derived.Test.YtilonacjmihglaaPSize
import Derived.Deep.RegionHeld3
import Derived.BigRegion
namespace Go.Proofs.Ytilonacjmihglaa
open Go Go.ChangeShapes Go.WideShapes Go.ChangeAt Go.RowKit
set_option linter.unusedVariables false
set_option linter.unusedSimpArgs false
theorem scanF_rising (vs : List Int) : ∀ (f k : Nat) (l : List Nat), scanF vs f k = some l → l.Pairwise (· < ·) := by
  intro f
  induction f with
  | zero =>
    intro k l h
    simp only [scanF] at h
    split at h
    · cases h
    · simp only [Option.some.injEq] at h; subst h; exact List.Pairwise.nil
  | succ f ih =>
    intro k l h
    simp only [scanF] at h
    split at h
    · split at h
      · rename_i ho
        rw [Option.map_eq_some_iff] at h
        obtain ⟨r, hr, rfl⟩ := h
        have hlo := fun x hx => (scanF_lt vs _ _ _ hr x hx).1
        have hs := okAt_sz ho
        exact List.Pairwise.cons (fun x hx => by have := hlo x hx; omega) (ih _ _ hr)
      · cases h
    · simp only [Option.some.injEq] at h; subst h; exact List.Pairwise.nil
theorem rising_lt {l : List Nat} (h : l.Pairwise (· < ·)) {i j : Nat} (hij : i < j) (hj : j < l.length) : l.getD i 0 < l.getD j 0 := by
  have := List.pairwise_iff_getElem.1 h i j (by omega) hj hij
  simpa [List.getD_eq_getElem?_getD, hj, (by omega : i < l.length)] using this
theorem objs_rising (ws : List Int) (top : Int) : (objList ws top).Pairwise (· < ·) := by
  unfold objList
  split
  · cases h : scan (ws.take top.toNat) 1 with
    | none => exact List.Pairwise.nil
    | some l => exact scanF_rising _ _ _ _ h
  · exact List.Pairwise.nil
theorem rising_ge {l : List Nat} (h : l.Pairwise (· < ·)) : ∀ i, i < l.length → i ≤ l.getD i 0 := by
  intro i
  induction i with
  | zero => intro _; exact Nat.zero_le _
  | succ i ih => intro hi; have := ih (by omega); have h3 : l.getD i 0 < l.getD (i + 1) 0 := rising_lt h (Nat.lt_succ_self i) hi; omega
theorem rising_len {l : List Nat} (h : l.Pairwise (· < ·)) {n : Nat} (hn : ∀ x ∈ l, x < n) : l.length ≤ n := by
  rcases Nat.eq_zero_or_pos l.length with h0 | h0
  · omega
  · have h1 := rising_ge h (l.length - 1) (by omega)
    have h2 := hn (l.getD (l.length - 1) 0) (by
      rw [List.getD_eq_getElem?_getD, List.getElem?_eq_getElem (by omega : l.length - 1 < l.length)]; exact List.getElem_mem _)
    omega
theorem objs_len (ws : List Int) (top : Int) : (objList ws top).length ≤ 1048576 := by
  unfold objList
  split
  · rename_i hm
    unfold memOk sizesOk at hm
    simp only [Bool.and_eq_true, decide_eq_true_eq] at hm
    cases h : scan (ws.take top.toNat) 1 with
    | none => simp
    | some l =>
      have := rising_len (scanF_rising _ _ _ _ h) (scan_lt h)
      rw [List.length_take] at this
      simp only [Option.getD_some]
      omega
  · simp
theorem mem_getD {l : List Nat} {i : Nat} (h : i < l.length) : l.getD i 0 ∈ l := by
  rw [List.getD_eq_getElem?_getD, List.getElem?_eq_getElem h]; exact List.getElem_mem h
theorem getD_of_mem {l : List Nat} {x : Nat} (h : x ∈ l) : ∃ i, i < l.length ∧ l.getD i 0 = x := by
  obtain ⟨i, hi, rfl⟩ := List.getElem_of_mem h
  exact ⟨i, hi, by rw [List.getD_eq_getElem?_getD, List.getElem?_eq_getElem hi]; rfl⟩
theorem ri_form {w : World} {v : Value} {l : List Nat} (h : Ri w v l) : ∃ p c, v = .slice p l.length c ∧ l.length ≤ 9223372036854775807 ∧ ∀ i, i < l.length → ∃ g, p = some ⟨g, 0, none⟩ ∧ w.cell? ⟨g, i, none⟩ = some (.int .i64 ((l.getD i 0 : Nat) : Int)) := by
  rcases h with ⟨rfl, rfl⟩ | ⟨g, c, rfl, h1, h2⟩
  · exact ⟨none, 0, rfl, by simp, fun i hi => by simp at hi⟩
  · refine ⟨_, c, rfl, h1, fun i hi => ⟨g, rfl, ?_⟩⟩
    rw [h2 i _ (List.getElem?_eq_getElem hi), List.getD_eq_getElem?_getD, List.getElem?_eq_getElem hi]
    rfl
set_option maxRecDepth 100000 in
set_option maxHeartbeats 1000000 in
theorem has_any (v : Value) (l : List Nat) (n : Nat) (w : World) (h : Ri w v l) (hs : l.Pairwise (· < ·)) (hm : l.length ≤ 4611686018427387903) :
    Calls Try.prog 23 #[v, .int .i64 n] w fun e w' => e = .returned (.bool (decide (n ∈ l))) ∧ w = w' := by
  obtain ⟨p, c, rfl, _, hp⟩ := ri_form h
  have HP := Lib.hid hp
  have HS := Lib.hid hs
  clear h hs hp
  go_enter Try.func23, Try.ntmps23
  go_wp2_with fail
  go_loopw [5, 6, 7] (fun lo hi _ wr => ∃ a b : Nat, lo = .int .i64 a ∧ hi = .int .i64 b ∧ a ≤ b ∧ b ≤ l.length ∧ (∀ i, i < a → l.getD i 0 < n) ∧ (∀ i, b ≤ i → i < l.length → n ≤ l.getD i 0) ∧ wr = w) (fun lo hi _ _ => (intOf hi).toNat - (intOf lo).toNat)
  case atStart => exact ⟨0, l.length, by go_num, by go_num, Nat.zero_le _, Nat.le_refl _, fun i hi => by omega, fun i h1 h2 => by omega, rfl⟩
  case round =>
    obtain ⟨a, b, rfl, rfl, hab, hb, h1, h2, rfl⟩ := hrel
    have H1 := Lib.hid h1
    have H2 := Lib.hid h2
    clear h1 h2
    by_cases hlt : a < b
    · have hlz : (a : Int) < (b : Int) := by omega
      obtain ⟨m, hmm⟩ : ∃ m, m = (a + b) / 2 := ⟨_, rfl⟩
      have e1 : ((a : Int) + (b : Int)) / 2 = (m : Int) := by omega
      have e2 : wrap64 ((a : Int) + (b : Int)) = (a : Int) + (b : Int) := by unfold wrap64; omega
      have hma : a ≤ m ∧ m < b := by omega
      have hml : m < l.length := by omega
      have hmz : (m : Int) < (l.length : Int) := by omega
      obtain ⟨g, rfl, hcell⟩ := HP.out m hml
      obtain ⟨x, hx⟩ : ∃ x, l.getD m 0 = x := ⟨_, rfl⟩
      rw [hx] at hcell
      have HX := Lib.hid hx
      clear hmm hx
      by_cases hxn : x < n
      · have hxz : (x : Int) < (n : Int) := by omega
        go_wp2_with fail
        go_roundw
        case rel => exact ⟨m + 1, b, by go_num, rfl, by omega, hb, fun i hi => by
          rcases Nat.lt_or_ge i m with h | h
          · have := rising_lt HS.out h hml; have := HX.out; omega
          · obtain rfl : i = m := by omega
            rw [HX.out]; exact hxn, H2.out, by trivial⟩
        case measure => simp [intOf]; omega
      · have hxz : ¬ (x : Int) < (n : Int) := by omega
        go_wp2_with fail
        go_roundw
        case rel => exact ⟨a, m, rfl, by rw [e1], by omega, by omega, H1.out, fun i h1 h2 => by
          rcases Nat.lt_or_ge m i with h | h
          · have := rising_lt HS.out h h2; have := HX.out; omega
          · obtain rfl : i = m := by omega
            rw [HX.out]; omega, by trivial⟩
        case measure => simp [intOf]; omega
    · obtain rfl : a = b := by omega
      have hlz : ¬ (a : Int) < (a : Int) := by omega
      by_cases hal : a < l.length
      · have haz : (a : Int) < (l.length : Int) := by omega
        obtain ⟨g, rfl, hcell⟩ := HP.out a hal
        obtain ⟨x, hx⟩ : ∃ x, l.getD a 0 = x := ⟨_, rfl⟩
        rw [hx] at hcell
        have HE := Lib.hid (show ((x : Int) == (n : Int)) = decide (n ∈ l) by
          rw [Bool.eq_iff_iff]
          simp only [beq_iff_eq, decide_eq_true_eq]
          constructor
          · intro e
            have : n = l.getD a 0 := by omega
            rw [this]; exact mem_getD hal
          · intro hn
            obtain ⟨i, hi, rfl⟩ := getD_of_mem hn
            rcases Nat.lt_or_ge i a with h | h
            · have := H1.out i h; omega
            · have := H2.out a (Nat.le_refl _) hal
              rcases Nat.lt_or_ge a i with h' | h'
              · have := rising_lt HS.out h' hi; omega
              · obtain rfl : i = a := by omega
                omega)
        clear hx
        go_wp2_with fail
        go_ret
        exact ⟨ret_b HE.out, rfl⟩
      · have haz : ¬ (a : Int) < (l.length : Int) := by omega
        have HE := Lib.hid (show false = decide (n ∈ l) by
          rw [Bool.eq_iff_iff]
          simp only [Bool.false_eq_true, decide_eq_true_eq, false_iff]
          intro hn
          obtain ⟨i, hi, rfl⟩ := getD_of_mem hn
          have := H1.out i (by omega); omega)
        go_wp2_with fail
        go_ret
        exact ⟨ret_b HE.out, rfl⟩
/-- Are memory and roots right? -/
def rootsB (ws : List Int) (top : Int) (rs : List Int) : Bool := memOk ws top && rs.all (rightW (objList ws top))
theorem kind_nat {x : Int} (h : kindOf x = 0) : 4 ≤ x ∧ x < 4194304 ∧ x % 4 = 0 := by
  unfold kindOf at h; split at h
  · split at h
    · omega
    · omega
  · repeat' split at h
    all_goals omega
set_option maxRecDepth 100000 in
set_option maxHeartbeats 1000000 in
theorem right14_any (v : Value) (ws : List Int) (top : Int) (rv : Value) (rs : List Int) (w : World) (hr : Rd w v ws) (hf : Fit ws) (ht : -9223372036854775808 ≤ top ∧ top ≤ 9223372036854775807) (hrr : Rd w rv rs) (hfr : Fit rs) :
    Calls Try.prog 6 #[.agg #[v, .int .i64 top], rv] w fun e w' => e = .returned (.bool (rootsB ws top rs)) ∧ Below w.heap.size w w' := by
  have HAL := Lib.hid (fun (wx : World) (hx : Below w.heap.size w wx) => refall_any v ws top wx (hr.keep hx) hf ht)
  have HRR := Lib.hid hrr
  have HFR := Lib.hid hfr
  have HRB := Lib.hid (show rootsB ws top rs = (memOk ws top && rs.all (rightW (objList ws top))) from rfl)
  obtain ⟨pr, cr, rfl, hmr⟩ := rd_form0 hrr
  obtain ⟨p, c, rfl, hm⟩ := rd_form0 hr
  clear hr hrr hf hfr
  have hlm : (objList ws top).length ≤ 1048576 := by
    have := objs_len ws top
    exact this
  have HRI := Lib.hid (objs_rising ws top)
  go_enter Try.func6, Try.ntmps6
  go_wp2_with fail
  refine (HAL.out _ (by ((repeat' (first | with_reducible assumption | with_reducible exact Below.refl _ _ | with_reducible refine Below.drew ?_ | with_reducible refine Below.alloc ?_ (by first | omega | (simp; omega) | (simp; done) | fail) _ | with_reducible refine Below.setCell ?_ (by first | omega | (simp; omega) | (simp; done) | fail) _ | fail)); (first | done | fail)))).mono ?_
  rintro e w2 ⟨hb2, u, rfl, ho⟩
  have HB2 := Lib.hid (Below.trans (show Below w.heap.size w _ by ((repeat' (first | with_reducible assumption | with_reducible exact Below.refl _ _ | with_reducible refine Below.drew ?_ | with_reducible refine Below.alloc ?_ (by first | omega | (simp; omega) | (simp; done) | fail) _ | with_reducible refine Below.setCell ?_ (by first | omega | (simp; omega) | (simp; done) | fail) _ | fail)); (first | done | fail))) (hb2.mono (by simp)))
  have HU := Lib.hid (ri_own ho (by omega))
  clear hb2 ho HAL
  obtain ⟨pu, cu, rfl, _⟩ := ri_form HU.out
  cases hmk : memOk ws top
  · have HE := Lib.hid (show false = rootsB ws top rs by rw [HRB.out, hmk]; rfl)
    go_wp2_with fail
    go_ret
    exact ⟨ret_b HE.out, HB2.out⟩
  · have HMK := Lib.hid hmk
    clear hmk
    generalize objList ws top = l at *
    go_wp2_with fail
    go_loopw [7, 8, 9, 10] (fun s _ _ _ wr => ∃ k : Nat, s = .int .i64 k ∧ k ≤ rs.length ∧ (∀ j, j < k → rightW l (rs.getD j 0) = true) ∧ wr = w2) (fun s _ _ _ _ => rs.length - (intOf s).toNat)
    case atStart => exact ⟨0, by go_num, Nat.zero_le _, fun j hj => by omega, rfl⟩
    case round =>
      obtain ⟨k, rfl, hk, hj, rfl⟩ := hrel
      have HJ := Lib.hid hj
      clear hj
      by_cases hlt : k < rs.length
      · have hlz : (k : Int) < (rs.length : Int) := by omega
        obtain ⟨b, off, c2, hv, hcc, hmm, hcell⟩ := (HRR.out.keep HB2.out).some (by omega)
        cases hv
        have hck := hcell k hlt
        have hx := HFR.out.at k
        obtain ⟨x, hxx⟩ : ∃ x, rs.getD k 0 = x := ⟨_, rfl⟩
        rw [hxx] at hck hx
        have HX := Lib.hid hxx
        clear hcell hxx
        have HNO := Lib.hid (fun (h : rightW l x = false) => show false = rootsB ws top rs by
          rw [HRB.out, HMK.out, Bool.true_and]
          exact (all_false_of _ rs k hlt (by rw [HX.out]; exact h)).symm)
        have HYES := Lib.hid (fun (h : rightW l x = true) => show ∀ j, j < k + 1 → rightW l (rs.getD j 0) = true from fun j hj => by
          rcases Nat.lt_or_ge j k with h' | h'
          · exact HJ.out j h'
          · obtain rfl : j = k := by omega
            rw [HX.out]; exact h)
        by_cases hk3 : kindOf x = 3
        · have HR := Lib.hid (HNO.out (by simp [rightW, hk3]))
          go_wp2_with (first | (go_at_call 21; (with_reducible refine (kind_ref x (wfu_mk hx) _).mono ?_); rintro e w9 ⟨rfl, rfl⟩; rw [hk3]) | (go_at_call 22; (with_reducible refine (at_ref x (wfu_mk hx) _).mono ?_); rintro e w9 ⟨rfl, rfl⟩))
          go_ret
          exact ⟨ret_b HR.out, HB2.out⟩
        · by_cases hk0 : kindOf x = 0
          · obtain ⟨n, hn⟩ : ∃ n : Nat, x / 4 = (n : Int) := ⟨(x / 4).toNat, by omega⟩
            have hat : atV x = (n : Int) := by unfold atV; rw [if_pos hk0, hn]
            have hxn : (x / 4).toNat = n := by omega
            cases hmem : decide (n ∈ l)
            · have HR := Lib.hid (HNO.out (by simp only [rightW, hk0, hxn, hmem]; rfl))
              go_wp2_with (first | (go_at_call 21; (with_reducible refine (kind_ref x (wfu_mk hx) _).mono ?_); rintro e w9 ⟨rfl, rfl⟩; rw [hk0]) | (go_at_call 22; (with_reducible refine (at_ref x (wfu_mk hx) _).mono ?_); rintro e w9 ⟨rfl, rfl⟩; rw [hat]) | (go_at_call 23; (with_reducible refine (has_any _ l n _ HU.out HRI.out (by omega)).mono ?_); rintro e w9 ⟨rfl, rfl⟩; rw [hmem]))
              go_ret
              exact ⟨ret_b HR.out, HB2.out⟩
            · have HR := Lib.hid (HYES.out (by simp only [rightW, hk0, hxn, hmem]; rfl))
              go_wp2_with (first | (go_at_call 21; (with_reducible refine (kind_ref x (wfu_mk hx) _).mono ?_); rintro e w9 ⟨rfl, rfl⟩; rw [hk0]) | (go_at_call 22; (with_reducible refine (at_ref x (wfu_mk hx) _).mono ?_); rintro e w9 ⟨rfl, rfl⟩; rw [hat]) | (go_at_call 23; (with_reducible refine (has_any _ l n _ HU.out HRI.out (by omega)).mono ?_); rintro e w9 ⟨rfl, rfl⟩; rw [hmem]))
              go_roundw
              case rel => exact ⟨k + 1, by go_num, by omega, HR.out, by trivial⟩
              case measure => simp [intOf]; omega
          · have HR := Lib.hid (HYES.out (by simp [rightW, hk3, hk0]))
            have k0 : (kindOf x == 0) = false := by simpa using hk0
            have k3 : (kindOf x == 3) = false := by simpa using hk3
            go_wp2_with (first | (go_at_call 21; (with_reducible refine (kind_ref x (wfu_mk hx) _).mono ?_); rintro e w9 ⟨rfl, rfl⟩) | (go_at_call 22; (with_reducible refine (at_ref x (wfu_mk hx) _).mono ?_); rintro e w9 ⟨rfl, rfl⟩))
            go_roundw
            case rel => exact ⟨k + 1, by go_num, by omega, HR.out, by trivial⟩
            case measure => simp [intOf]; omega
      · obtain rfl : k = rs.length := by omega
        have hlz : ¬ (rs.length : Int) < (rs.length : Int) := by omega
        have HE := Lib.hid (show true = rootsB ws top rs by
          rw [HRB.out, HMK.out, Bool.true_and]
          refine (List.all_eq_true.2 fun x hx => ?_).symm
          obtain ⟨i, hi, rfl⟩ := List.getElem_of_mem hx
          have := HJ.out i hi
          simpa [List.getD_eq_getElem?_getD, hi] using this)
        go_wp2_with fail
        go_ret
        exact ⟨ret_b HE.out, HB2.out⟩
end Go.Proofs.Ytilonacjmihglaa
