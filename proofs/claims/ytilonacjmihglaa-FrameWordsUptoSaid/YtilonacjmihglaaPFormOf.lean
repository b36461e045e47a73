/- A memory that is right is in form, with the objects that are listed; what Clear writes keeps it so. -/
import Derived.Test.YtilonacjmihglaaPPm
import Derived.Test.YtilonacjmihglaaPPure14
import Derived.Test.YtilonacjmihglaaPHas
namespace Go.Proofs.Ytilonacjmihglaa
open Go.RowKit
set_option linter.unusedSimpArgs false
set_option linter.unusedVariables false
theorem form_of {ws : List Int} {top : Int} (h : memOk ws top = true) : ∃ tn : Nat, top = (tn : Int) ∧ Form ws tn (objList ws top) := by
  have h0 := h
  unfold memOk sizesOk at h
  simp only [Bool.and_eq_true, decide_eq_true_eq] at h
  obtain ⟨⟨h1, h2, h3, h4, h5⟩, h6, h7⟩ := h
  obtain ⟨tn, rfl⟩ := Int.eq_ofNat_of_zero_le (by omega : 0 ≤ top)
  rw [Int.toNat_natCast] at h6 h7
  refine ⟨tn, rfl, ?_⟩
  unfold shapeOk at h7
  cases hs : scan (ws.take tn) 1 with
  | none => rw [hs] at h7; cases h7
  | some l =>
    rw [hs] at h7
    have e : objList ws (tn : Int) = l := by unfold objList; rw [if_pos h0, Int.toNat_natCast, hs]; rfl
    rw [e]
    refine ⟨h1, h2, by omega, by omega, h5, drop_all.1 h6, hs, fun a ha j hj => ?_⟩
    have h8 : wordsOk (ws.take tn) l = true := h7
    unfold wordsOk at h8
    exact (tags_all (scan_mem_ok hs a ha) _).1 (List.all_eq_true.1 h8 a ha) j hj
theorem form_clr {ws : List Int} {tn : Nat} {l : List Nat} (h : Form ws tn l) {a : Nat} (ha : a ∈ l) (live : List Nat) (n : Nat) (hn : a + 8 + n ≤ a + sz (ws.take tn) a) : ∀ k, k ≤ n → Form (clrL ws a live k) tn l := by
  have hla := okAt_len (scan_mem_ok h.scan a ha)
  have hlen := h.len
  have hle := h.le
  intro k
  induction k with
  | zero => intro _; exact h
  | succ k ih =>
    intro hk
    have ih := ih (by omega)
    unfold clrL
    split
    · exact ih
    · have hh := clr_head ws a live k tn (by omega)
      have hs : sz ((clrL ws a live k).take tn) a = sz (ws.take tn) a := sz_ext hh.1
      have := ih.set ha (6 + k) (by rw [hs]; omega) 14 (fun _ => by unfold rightW; rw [show kindOf 14 = 2 by rfl]; rfl)
      rwa [show a + 2 + (6 + k) = a + 8 + k by omega] at this
theorem form_clr_ok {ws : List Int} {tn : Nat} {l : List Nat} (h : Form ws tn l) {a : Nat} (ha : a ∈ l) (live : List Nat) (n : Nat) (hn : a + 8 + n ≤ a + sz (ws.take tn) a) : checkE (clrL ws a live n) tn = 0 := by
  unfold checkE
  rw [if_pos (form_clr h ha live n hn n (Nat.le_refl _)).ok.1]
end Go.Proofs.Ytilonacjmihglaa
