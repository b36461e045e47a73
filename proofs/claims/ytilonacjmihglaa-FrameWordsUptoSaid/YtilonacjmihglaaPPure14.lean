/- New, Alloc and Set keep a memory in form. -/
import Derived.Test.YtilonacjmihglaaPPure13
namespace Go.Proofs.Ytilonacjmihglaa
open Go.RowKit
set_option linter.unusedSimpArgs false
set_option linter.unusedVariables false
theorem Form.new (n : Nat) (h : 2 ≤ n ∧ n ≤ 1048576) : Form (List.replicate n 0) 1 [] := by
  have hz : ∀ i, (List.replicate n (0 : Int)).getD i 0 = 0 := fun i => by
    simp only [List.getD_eq_getElem?_getD, List.getElem?_replicate]; split <;> rfl
  have hl : (List.replicate n (0 : Int)).length = n := List.length_replicate
  exact ⟨by omega, by omega, by omega, by omega, hz 0, fun i _ => hz i, scan_end (by rw [List.length_take]; omega), fun a ha => by simp at ha⟩
theorem Form.set {ws : List Int} {top : Nat} {l : List Nat} (h : Form ws top l) {a : Nat} (ha : a ∈ l) (i : Nat) (hi : a + 2 + i < a + sz (ws.take top) a) (x : Int)
    (hx : i < (hT (headAt (ws.take top) a)).toNat → rightW l x = true) : Form (ws.set (a + 2 + i) x) top l := by
  have hlen := h.len
  have hok := fun b hb => scan_mem_ok h.scan b hb
  have hla := okAt_len (hok a ha)
  have htk : ∀ j, ((ws.set (a + 2 + i) x).take top).getD j 0 = if j = a + 2 + i then x else (ws.take top).getD j 0 := fun j => by
    have := h.le
    by_cases hj : j = a + 2 + i
    · subst hj; rw [getD_take, getD_set, if_pos (by omega), if_pos ⟨rfl, by omega⟩, if_pos rfl]
    · simp only [getD_take, getD_set, hj, false_and, if_false]
  have hl2 : ((ws.set (a + 2 + i) x).take top).length = (ws.take top).length := by rw [List.length_take, List.length_take, List.length_set]
  have hap : ∀ b ∈ l, ∀ j, j < sz (ws.take top) b → b + j = a + 2 + i → b = a ∧ j = 2 + i := fun b hb j hj e => by
    have hlb := okAt_len (hok b hb)
    rcases scan_apart _ _ _ h.scan a ha b hb with e2 | e2 | e2
    · subst e2; exact ⟨rfl, by omega⟩
    · omega
    · omega
  have hq : ∀ b ∈ l, a + 2 + i ≠ b ∧ a + 2 + i ≠ b + 1 := fun b hb => by
    have hsb := okAt_sz (hok b hb)
    constructor
    · intro e
      have := (hap b hb 0 (by omega) (by omega)).2
      omega
    · intro e
      have := (hap b hb 1 (by omega) (by omega)).2
      omega
  refine ⟨by rw [List.length_set]; exact h.two, by rw [List.length_set]; exact h.most, h.one, by rw [List.length_set]; exact h.le, ?_, ?_, ?_, ?_⟩
  · rw [getD_set, if_neg (fun g => by omega)]; exact h.nought
  · intro j hj
    rw [getD_set, if_neg (fun g => by omega)]
    exact h.free j hj
  · have hs := h.scan
    unfold Go.Proofs.Ytilonacjmihglaa.scan at hs ⊢
    rw [hl2]
    exact scan_same hl2 (fun j hj => by rw [htk, if_neg hj]) _ _ _ hs hq
  · intro b hb j hj
    have hlb := okAt_len (hok b hb)
    have hqb := hq b hb
    have hh : headAt ((ws.set (a + 2 + i) x).take top) b = headAt (ws.take top) b := head_ext (Nat.le_of_eq hl2.symm) (okAt_two (hok b hb)) (by rw [htk, if_neg (fun e => hqb.1 e.symm)])
    rw [hh] at hj
    rw [htk]
    by_cases e : b + 2 + j = a + 2 + i
    · rw [if_pos e]
      obtain ⟨rfl, e2⟩ := hap b hb (2 + j) (by omega) (by omega)
      exact hx (by omega)
    · rw [if_neg e]
      exact h.words b hb j hj
theorem head_of (k T R : Int) (h : 1 ≤ k ∧ k ≤ 255 ∧ 0 ≤ T ∧ 0 ≤ R ∧ 2 + T + R < 16777216) : hK (k + T * 256 + (2 + T + R) * 4294967296) = k ∧ hT (k + T * 256 + (2 + T + R) * 4294967296) = T ∧ hS (k + T * 256 + (2 + T + R) * 4294967296) = 2 + T + R := by
  have e : k + T * 256 + (2 + T + R) * 4294967296 = k + 256 * (T + 16777216 * (2 + T + R)) := by omega
  rw [e]
  have e1 : (k + 256 * (T + 16777216 * (2 + T + R))) / 256 = T + 16777216 * (2 + T + R) := by omega
  have e2 : (k + 256 * (T + 16777216 * (2 + T + R))) / 4294967296 = 2 + T + R := by omega
  unfold hK hT hS
  rw [e1, e2]
  refine ⟨?_, ?_, ?_⟩ <;> omega
theorem rightW_more {l : List Nat} {x : Int} (k : Nat) (h : rightW l x = true) : rightW (l ++ [k]) x = true := by
  unfold rightW at h ⊢
  simp only [Bool.and_eq_true, Bool.or_eq_true, Bool.not_eq_true', decide_eq_false_iff_not, decide_eq_true_eq] at h ⊢
  exact ⟨h.1, h.2.imp id (fun g => List.mem_append_left _ g)⟩
theorem getD_allocL (ws : List Int) (a : Nat) (hd : Int) (T M i : Nat) (h : a + 2 + M ≤ ws.length) : (allocL ws a hd T M).getD i 0 = fillTo (fun i => ws.getD i 0) a hd T M i := by
  unfold allocL
  by_cases hi : i < ws.length
  · simp [List.getD_eq_getElem?_getD, hi]
  · have h1 : ws.getD i 0 = 0 := by simp [List.getD_eq_getElem?_getD, List.getElem?_eq_none (by omega : ws.length ≤ i)]
    have h2 : fillTo (fun i => ws.getD i 0) a hd T M i = 0 := by
      unfold fillTo
      rw [if_neg (by omega), if_neg (by omega), if_neg (by omega)]
      exact h1
    rw [h2]
    simp [List.getD_eq_getElem?_getD, hi]
theorem Form.alloc {ws : List Int} {top : Nat} {l : List Nat} (h : Form ws top l) (k : Int) (T R : Nat) (hk : 1 ≤ k ∧ k ≤ 255) (hs : 2 + T + R < 16777216 ∧ top + (2 + T + R) ≤ ws.length) :
    Form (allocL ws top (k + T * 256 + (2 + T + R) * 4294967296) T (T + R)) (top + (2 + T + R)) (l ++ [top]) := by
  have hlen := h.len
  have h1 := h.one
  have hH := head_of k T R ⟨hk.1, hk.2, by omega, by omega, by omega⟩
  have hlt : (k + (T : Int) * 256 + (2 + (T : Int) + (R : Int)) * 4294967296) < 72057594037927936 := by omega
  generalize k + (T : Int) * 256 + (2 + (T : Int) + (R : Int)) * 4294967296 = hd at *
  have hG := fun i => getD_allocL ws top hd T (T + R) i (by omega)
  have hL : (allocL ws top hd T (T + R)).length = ws.length := by simp [allocL]
  generalize allocL ws top hd T (T + R) = ws' at *
  have htl : (ws'.take (top + (2 + T + R))).length = top + (2 + T + R) := by rw [List.length_take]; omega
  have hlow : ∀ i, i < top → (ws'.take (top + (2 + T + R))).getD i 0 = (ws.take top).getD i 0 := fun i hi => by
    rw [getD_take, getD_take, if_pos (by omega), if_pos hi, hG]
    unfold fillTo
    rw [if_neg (by omega), if_neg (by omega), if_neg (by omega)]
  have e0 : (ws'.take (top + (2 + T + R))).getD top 0 = hd := by
    rw [getD_take, if_pos (by omega), hG]
    unfold fillTo
    rw [if_pos rfl]
  have e1 : (ws'.take (top + (2 + T + R))).getD (top + 1) 0 = 0 := by
    rw [getD_take, if_pos (by omega), hG]
    unfold fillTo
    rw [if_neg (by omega), if_pos rfl]
  have e2 : ∀ j, j < T → (ws'.take (top + (2 + T + R))).getD (top + 2 + j) 0 = 2 := fun j hj => by
    rw [getD_take, if_pos (by omega), hG]
    unfold fillTo
    rw [if_neg (by omega), if_neg (by omega), if_pos (by omega), if_pos (by omega)]
  have hhd : headAt (ws'.take (top + (2 + T + R))) top = hd := by
    unfold headAt
    rw [if_pos (by rw [htl]; omega), Int.toNat_natCast, e0]
  have hot : okAt (ws'.take (top + (2 + T + R))) top = true := by
    unfold okAt there
    rw [hhd, e1, htl, hH.1, hH.2.1, hH.2.2]
    simp only [Bool.and_eq_true, decide_eq_true_eq]
    exact ⟨⟨by omega, by omega, by omega, by omega, by omega⟩, hlt, trivial⟩
  have hsz : sz (ws'.take (top + (2 + T + R))) top = 2 + T + R := by
    unfold sz
    rw [hhd, hH.2.2]; omega
  have hle : (ws.take top).length ≤ (ws'.take (top + (2 + T + R))).length := by omega
  refine ⟨by rw [hL]; exact h.two, by rw [hL]; exact h.most, by omega, by omega, ?_, ?_, ?_, ?_⟩
  · rw [hG]
    unfold fillTo
    rw [if_neg (by omega), if_neg (by omega), if_neg (by omega)]
    exact h.nought
  · intro i hi
    rw [hG]
    unfold fillTo
    rw [if_neg (by omega), if_neg (by omega), if_neg (by omega)]
    exact h.free i (by omega)
  · have hs := h.scan
    rw [scan_more hle (fun i hi => hlow i (by omega)) _ 1 l (by omega) (by omega) hs, hlen, scan_ok (by omega) hot, hsz, scan_end (by omega)]
    rfl
  · intro a ha j hj
    rcases List.mem_append.1 ha with ha | ha
    · have hoa := scan_mem_ok h.scan a ha
      have hla := okAt_len hoa
      have h2 := okAt_two hoa
      have hh := head_ext hle h2 (hlow a (by omega))
      rw [hh] at hj
      rw [hlow _ (by omega)]
      exact rightW_more _ (h.words a ha j hj)
    · obtain rfl : a = top := by simpa using ha
      rw [hhd, hH.2.1] at hj
      rw [e2 j (by omega)]
      unfold rightW
      rw [show kindOf 2 = 2 by rfl]
      rfl
end Go.Proofs.Ytilonacjmihglaa
