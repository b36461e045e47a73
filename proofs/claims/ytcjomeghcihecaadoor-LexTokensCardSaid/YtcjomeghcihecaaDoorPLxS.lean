/- Layer 4: what a string's bytes say, step by step. -/
import Derived.Test.YtcjomeghcihecaaDoorPLxN
namespace Go.Proofs.YtcjomeghcihecaaDoor
open Go Go.ChangeShapes Go.WideShapes Go.ChangeAt Go.RowKit Go.PlainAid Go.Maps
set_option linter.unusedVariables false
set_option linter.unusedSimpArgs false
theorem restB_bt {s : ByteArray} {k j : Nat} (h : k + j < s.size) : bt (restB s k) j = bt s (k + j) := by
  have h1 : j < (restB s k).size := by rw [restB_size]; omega
  obtain ⟨c, e1, e2⟩ := Rs_cons h1
  obtain ⟨d, f1, f2⟩ := Rs_cons h
  rw [e2, f2]
  rw [restB_Rs, f1] at e1
  simp only [List.cons.injEq] at e1
  rw [e1.1]
theorem hexV_some {c : UInt8} (h : 0 ≤ hexI c.toNat) : hexV c = some (hexI c.toNat).toNat := by rw [hexV_int, if_pos h]
theorem hexV_none {c : UInt8} (h : ¬ 0 ≤ hexI c.toNat) : hexV c = none := by rw [hexV_int, if_neg h]
theorem esc_step (q : UInt8) (s : ByteArray) (k : Nat) : ((escP (restB s k)).2 = 0 ∧ strS q .esc (Rs s k) = none) ∨
    (∃ n : Nat, (escP (restB s k)).2 = n ∧ 0 < n ∧ k + n ≤ s.size ∧ n ≤ 3 ∧ 0 ≤ (escP (restB s k)).1 ∧ (escP (restB s k)).1 ≤ 255 ∧
      strS q .esc (Rs s k) = (strS q .plain (Rs s (k + n))).map fun p => (UInt8.ofNat (escP (restB s k)).1.toNat :: p.1, p.2 + n)) := by
  by_cases h0 : k < s.size
  · obtain ⟨c, r1, r2⟩ := Rs_cons h0
    have hsz : ¬ (restB s k).size = 0 := by rw [restB_size]; omega
    have hb0 : bt (restB s k) 0 = c.toNat := by rw [restB_bt (by omega)]; exact r2
    have hE : escP (restB s k) = if (c.toNat : Int) = 110 then (10, 1) else if (c.toNat : Int) = 116 then (9, 1) else if (c.toNat : Int) = 92 ∨ (c.toNat : Int) = 39 ∨ (c.toNat : Int) = 34 then ((c.toNat : Int), 1)
        else if (c.toNat : Int) = 120 ∧ 3 ≤ (restB s k).size ∧ 0 ≤ hexI (bt (restB s k) 1) ∧ 0 ≤ hexI (bt (restB s k) 2) then (hexI (bt (restB s k) 1) * 16 + hexI (bt (restB s k) 2), 3) else (0, 0) := by
      unfold escP
      rw [if_neg hsz, hb0]
    have one : ∀ v : UInt8, stC c = some v → c.toNat ≠ 120 → escP (restB s k) = ((v.toNat : Int), 1) → ∃ n : Nat, (escP (restB s k)).2 = n ∧ 0 < n ∧ k + n ≤ s.size ∧ n ≤ 3 ∧ 0 ≤ (escP (restB s k)).1 ∧ (escP (restB s k)).1 ≤ 255 ∧
      strS q .esc (Rs s k) = (strS q .plain (Rs s (k + n))).map fun p => (UInt8.ofNat (escP (restB s k)).1.toNat :: p.1, p.2 + n) := by
      intro v hv h120 he
      refine ⟨1, by rw [he]; rfl, by omega, by omega, by omega, by rw [he]; simp, by rw [he]; have := v.toNat_lt; simp only; omega, ?_⟩
      rw [r1]
      simp only [strS, if_neg h120, hv, he]
      simp
    by_cases h1 : (c.toNat : Int) = 110
    · refine .inr (one 10 ?_ (by omega) ?_)
      · unfold stC; rw [if_pos (by omega)]
      · rw [hE, if_pos h1]; rfl
    · rw [if_neg h1] at hE
      by_cases h2 : (c.toNat : Int) = 116
      · refine .inr (one 9 ?_ (by omega) ?_)
        · unfold stC; rw [if_neg (by omega), if_pos (by omega)]
        · rw [hE, if_pos h2]; rfl
      · rw [if_neg h2] at hE
        by_cases h3 : (c.toNat : Int) = 92 ∨ (c.toNat : Int) = 39 ∨ (c.toNat : Int) = 34
        · refine .inr (one c ?_ (by omega) ?_)
          · unfold stC; rw [if_neg (by omega), if_neg (by omega), if_pos (by omega)]
          · rw [hE, if_pos h3]
        · rw [if_neg h3] at hE
          have hst : stC c = none := by unfold stC; rw [if_neg (by omega), if_neg (by omega), if_neg (by omega)]
          by_cases h4 : (c.toNat : Int) = 120
          · have h4n : c.toNat = 120 := by omega
            by_cases h5 : k + 1 < s.size
            · obtain ⟨c1, s1, s2⟩ := Rs_cons h5
              have hb1 : bt (restB s k) 1 = c1.toNat := by rw [restB_bt h5]; exact s2
              by_cases h6 : 0 ≤ hexI c1.toNat
              · by_cases h7 : k + 1 + 1 < s.size
                · obtain ⟨c2, t1, t2⟩ := Rs_cons h7
                  have hb2 : bt (restB s k) 2 = c2.toNat := by rw [restB_bt (by omega)]; exact t2
                  have hsz3 : 3 ≤ (restB s k).size := by rw [restB_size]; omega
                  by_cases h8 : 0 ≤ hexI c2.toNat
                  · rw [hb1, hb2, if_pos ⟨h4, hsz3, h6, h8⟩] at hE
                    have l1 := hexI_lo (c1.toNat : Int)
                    have l2 := hexI_lo (c2.toNat : Int)
                    refine .inr ⟨3, by rw [hE]; rfl, by omega, by omega, by omega, by rw [hE]; simp only; omega, by rw [hE]; simp only; omega, ?_⟩
                    rw [r1, s1, t1]
                    simp only [strS, if_pos h4n, hexV_some h6, hexV_some h8, hE, Option.map_map]
                    rw [show k + 1 + 1 + 1 = k + 3 by omega]
                    cases strS q .plain (Rs s (k + 3)) with
                    | none => rfl
                    | some p =>
                      simp only [Option.map_some, Function.comp, Option.some.injEq, Prod.mk.injEq, List.cons.injEq, and_true, true_and]
                      congr 1; omega
                  · refine .inl ⟨by rw [hE, if_neg (fun h => h8 (by rw [← hb2]; exact h.2.2.2))], ?_⟩
                    rw [r1, s1, t1]
                    simp only [strS, if_pos h4n, hexV_some h6, hexV_none h8]
                    rfl
                · refine .inl ⟨by rw [hE, if_neg (fun h => by have := h.2.1; rw [restB_size] at this; omega)], ?_⟩
                  rw [r1, s1, Rs_end (by omega)]
                  simp only [strS, if_pos h4n, hexV_some h6]
                  rfl
              · refine .inl ⟨by rw [hE, if_neg (fun h => h6 (by rw [← hb1]; exact h.2.2.1))], ?_⟩
                rw [r1, s1]
                simp only [strS, if_pos h4n, hexV_none h6]
                rfl
            · refine .inl ⟨by rw [hE, if_neg (fun h => by have := h.2.1; rw [restB_size] at this; omega)], ?_⟩
              rw [r1, Rs_end (by omega)]
              simp only [strS, if_pos h4n]
              rfl
          · refine .inl ⟨by rw [hE, if_neg (fun h => h4 h.1)], ?_⟩
            rw [r1]
            simp only [strS, if_neg (show ¬ c.toNat = 120 by omega), hst]
  · refine .inl ⟨by unfold escP; rw [if_pos (by rw [restB_size]; omega)], ?_⟩
    rw [Rs_end (by omega)]
    rfl
/-- One byte of a string, as it stands. -/
theorem str_end (q : UInt8) {s : ByteArray} {k : Nat} (h : s.size ≤ k) : strS q .plain (Rs s k) = none := by rw [Rs_end h]; rfl
theorem str_low (q : UInt8) (hq : 32 ≤ q.toNat) {s : ByteArray} {k : Nat} (h : k < s.size) (hb : bt s k < 32) : strS q .plain (Rs s k) = none := by
  obtain ⟨c, r1, r2⟩ := Rs_cons h
  rw [r1]
  simp only [strS]
  rw [if_neg (by rintro rfl; omega), if_pos (by omega)]
theorem str_quote (q : UInt8) {s : ByteArray} {k : Nat} (h : k < s.size) (hb : bt s k = q.toNat) : strS q .plain (Rs s k) = some ([], 1) := by
  obtain ⟨c, r1, r2⟩ := Rs_cons h
  rw [r1]
  simp only [strS]
  rw [if_pos (UInt8.toNat_inj.1 (by omega))]
theorem str_esc (q : UInt8) {s : ByteArray} {k : Nat} (h : k < s.size) (hq : bt s k ≠ q.toNat) (hb : bt s k = 92) : strS q .plain (Rs s k) = (strS q .esc (Rs s (k + 1))).map fun p => (p.1, p.2 + 1) := by
  obtain ⟨c, r1, r2⟩ := Rs_cons h
  rw [r1]
  simp only [strS]
  rw [if_neg (fun e => hq (by rw [r2, e])), if_neg (by omega), if_pos (by omega)]
theorem str_plain (q : UInt8) {s : ByteArray} {k : Nat} (h : k < s.size) (hq : bt s k ≠ q.toNat) (h32 : 32 ≤ bt s k) (hb : bt s k ≠ 92) : strS q .plain (Rs s k) = (strS q .plain (Rs s (k + 1))).map fun p => (UInt8.ofNat (bt s k).toNat :: p.1, p.2 + 1) := by
  obtain ⟨c, r1, r2⟩ := Rs_cons h
  have hc : UInt8.ofNat (bt s k).toNat = c := by rw [r2]; simp
  rw [hc, r1]
  simp only [strS]
  rw [if_neg (fun e => hq (by rw [r2, e])), if_neg (by omega), if_neg (by omega)]
end Go.Proofs.YtcjomeghcihecaaDoor
