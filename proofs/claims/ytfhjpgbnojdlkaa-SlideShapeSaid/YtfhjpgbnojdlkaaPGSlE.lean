/- Layer 14, plain: the marking's two loops, and what they come to. Layer 14, plain: where what is marked will lie; the words while the forwards are laid. Layer 14, plain: the words while the addresses are turned. Layer 14, plain: the words while what is marked slides down. Layer 14, plain: what a collection leaves, told of the words as they were. -/
import Derived.Test.YtfhjpgbnojdlkaaPGSlP
namespace Go.Proofs.Ytfhjpgbnojdlkaa
section
open Go.RowKit
set_option linter.unusedSimpArgs false
set_option linter.unusedVariables false
theorem filter_less {α : Type} {p q : α → Bool} (h : ∀ x, q x = true → p x = true) : ∀ (l : List α), (l.filter q).length ≤ (l.filter p).length ∧ ((∃ a ∈ l, p a = true ∧ q a = false) → (l.filter q).length < (l.filter p).length) := by
  intro l
  induction l with
  | nil => exact ⟨Nat.le_refl _, fun ⟨a, ha, _⟩ => by cases ha⟩
  | cons x l ih =>
    obtain ⟨h1, h2⟩ := ih
    cases hq : q x
    · cases hp : p x
      · simp only [List.filter_cons, hq, hp]
        refine ⟨h1, fun ⟨a, ha, h3⟩ => ?_⟩
        rcases List.mem_cons.1 ha with rfl | ha
        · rw [hp] at h3; cases h3.1
        · exact h2 ⟨a, ha, h3⟩
      · simp only [List.filter_cons, hq, hp]
        refine ⟨by simp; omega, fun _ => by simp; omega⟩
    · have hp := h x hq
      simp only [List.filter_cons, hq, hp]
      refine ⟨by simpa using h1, fun ⟨a, ha, h3⟩ => ?_⟩
      rcases List.mem_cons.1 ha with rfl | ha
      · rw [hq] at h3; cases h3.2
      · simpa using h2 ⟨a, ha, h3⟩
/-- How many objects aren't done. -/
def openN (l : List Nat) (M : Nat → Bool) (c : List Nat) : Nat := (l.filter fun a => !(M a && decide (a ∉ c))).length
/-- While the roots are gone through. -/
structure RT (ws : List Int) (l : List Nat) (rs : List Int) (k : Nat) (M : Nat → Bool) (c : List Nat) (xs : List Int) (lst : Nat) : Prop where
  ms : MS ws l M c xs lst
  snd : ∀ a, M a = true → Rch ws rs a
  all : ∀ a, M a = true → a ∈ c
  fst : ∀ j, j < k → kindOf (rs.getD j 0) = 0 → M (rs.getD j 0 / 4).toNat = true
theorem RT.start (ws : List Int) (l : List Nat) (rs : List Int) : RT ws l rs 0 (fun _ => false) [] ws 0 :=
  ⟨MS.start ws l, fun _ h => (by cases h), fun _ h => (by cases h), fun _ h => absurd h (Nat.not_lt_zero _)⟩
theorem RT.skip {ws : List Int} {l : List Nat} {rs : List Int} {k : Nat} {M : Nat → Bool} {c : List Nat} {xs : List Int} {lst : Nat} (h : RT ws l rs k M c xs lst) (hk : kindOf (rs.getD k 0) = 0 → M (rs.getD k 0 / 4).toNat = true) : RT ws l rs (k + 1) M c xs lst :=
  ⟨h.ms, h.snd, h.all, fun j hj => by
    rcases Nat.lt_or_ge j k with h' | h'
    · exact h.fst j h'
    · obtain rfl : j = k := by omega
      exact hk⟩
theorem getD_mem {l : List Int} {i : Nat} (h : i < l.length) : l.getD i 0 ∈ l := by
  rw [List.getD_eq_getElem?_getD, List.getElem?_eq_getElem h]; exact List.getElem_mem h
theorem RT.push {ws : List Int} {tn : Nat} {l : List Nat} {rs : List Int} {k : Nat} {M : Nat → Bool} {c : List Nat} {xs : List Int} {lst b : Nat} (h : RT ws l rs k M c xs lst) (ho : Ob ws tn l) (hk : k < rs.length) (h0 : kindOf (rs.getD k 0) = 0) (hb : (rs.getD k 0 / 4).toNat = b) (hbl : b ∈ l) (hM : M b = false) :
    RT ws l rs (k + 1) (addM M b) (b :: c) ((xs.set b (xs.getD b 0 + 9223372036854775808)).set (b + 1) lst) b := by
  refine ⟨h.ms.push ho hbl hM, fun a ha => ?_, fun a ha => ?_, fun j hj h1 => ?_⟩
  · rcases addM_iff.1 ha with ha | rfl
    · exact h.snd a ha
    · rw [← hb]; exact Rch.root (getD_mem hk) h0
  · rcases addM_iff.1 ha with ha | rfl
    · exact List.mem_cons_of_mem _ (h.all a ha)
    · exact List.mem_cons_self
  · rcases Nat.lt_or_ge j k with h' | h'
    · exact addM_iff.2 (.inl (h.fst j h' h1))
    · obtain rfl : j = k := by omega
      exact addM_iff.2 (.inr hb)
/-- While the list is gone through. -/
structure OT (ws : List Int) (l : List Nat) (rs : List Int) (M : Nat → Bool) (c : List Nat) (xs : List Int) (lst : Nat) : Prop where
  ms : MS ws l M c xs lst
  snd : ∀ a, M a = true → Rch ws rs a
  rts : ∀ x ∈ rs, kindOf x = 0 → M (x / 4).toNat = true
  clo : ∀ a, M a = true → a ∉ c → ∀ b ∈ sucs ws a, M b = true
theorem RT.done {ws : List Int} {l : List Nat} {rs : List Int} {M : Nat → Bool} {c : List Nat} {xs : List Int} {lst : Nat} (h : RT ws l rs rs.length M c xs lst) : OT ws l rs M c xs lst :=
  ⟨h.ms, h.snd, fun x hx hk => by
    obtain ⟨i, hi, rfl⟩ := List.getElem_of_mem hx
    have h1 := h.fst i hi
    rw [List.getD_eq_getElem?_getD, List.getElem?_eq_getElem hi] at h1
    exact h1 hk, fun a ha hc => absurd (h.all a ha) hc⟩
/-- While an object's addresses are gone through: M, c are those ahead of it, the object a taken off. -/
structure IN (ws : List Int) (l : List Nat) (rs : List Int) (M : Nat → Bool) (a : Nat) (c : List Nat) (k : Nat) (M' : Nat → Bool) (c' : List Nat) (xs : List Int) (lst : Nat) : Prop where
  ms : MS ws l M' c' xs lst
  snd : ∀ b, M' b = true → Rch ws rs b
  mono : ∀ b, M b = true → M' b = true
  ps : ∃ ps, c' = ps ++ c ∧ (∀ p ∈ ps, M p = false) ∧ ∀ b, M' b = true → M b = true ∨ b ∈ ps
  fst : ∀ j, j < k → M' (ws.getD ((adrP ws a (tgN ws a)).getD j 0) 0 / 4).toNat = true
theorem OT.pop {ws : List Int} {l : List Nat} {rs : List Int} {M : Nat → Bool} {a : Nat} {c : List Nat} {xs : List Int} {lst : Nat} (h : OT ws l rs M (a :: c) xs lst) : lst = a ∧ ∃ nx : Nat, xs.getD (a + 1) 0 = nx ∧ IN ws l rs M a c 0 M c xs nx := by
  obtain ⟨h1, nx, h2, h3⟩ := h.ms.pop
  exact ⟨h1, nx, h2, h3, h.snd, fun _ hb => hb, ⟨[], rfl, fun _ hp => (by cases hp), fun _ hb => .inl hb⟩, fun _ hj => absurd hj (Nat.not_lt_zero _)⟩
theorem IN.skip {ws : List Int} {l : List Nat} {rs : List Int} {M : Nat → Bool} {a : Nat} {c : List Nat} {k : Nat} {M' : Nat → Bool} {c' : List Nat} {xs : List Int} {lst : Nat} (h : IN ws l rs M a c k M' c' xs lst) (hk : M' (ws.getD ((adrP ws a (tgN ws a)).getD k 0) 0 / 4).toNat = true) : IN ws l rs M a c (k + 1) M' c' xs lst :=
  ⟨h.ms, h.snd, h.mono, h.ps, fun j hj => by
    rcases Nat.lt_or_ge j k with h' | h'
    · exact h.fst j h'
    · obtain rfl : j = k := by omega
      exact hk⟩
theorem IN.push {ws : List Int} {tn : Nat} {l : List Nat} {rs : List Int} {M : Nat → Bool} {a : Nat} {c : List Nat} {k : Nat} {M' : Nat → Bool} {c' : List Nat} {xs : List Int} {lst b : Nat} (h : IN ws l rs M a c k M' c' xs lst) (ho : Ob ws tn l) (ha : M a = true) (hal : a ∈ l) (hk : k < (adrP ws a (tgN ws a)).length) (hb : (ws.getD ((adrP ws a (tgN ws a)).getD k 0) 0 / 4).toNat = b) (hM : M' b = false) :
    IN ws l rs M a c (k + 1) (addM M' b) (b :: c') ((xs.set b (xs.getD b 0 + 9223372036854775808)).set (b + 1) lst) b := by
  have hbl : b ∈ l := by rw [← hb]; exact (ho.adr hal (mem_getD hk)).2.1
  obtain ⟨ps, hp1, hp2, hp3⟩ := h.ps
  refine ⟨h.ms.push ho hbl hM, fun d hd => ?_, fun d hd => addM_iff.2 (.inl (h.mono d hd)), ⟨b :: ps, by rw [hp1]; rfl, fun p hp => ?_, fun d hd => ?_⟩, fun j hj => ?_⟩
  · rcases addM_iff.1 hd with hd | rfl
    · exact h.snd d hd
    · refine Rch.step (h.snd a (h.mono a ha)) ?_
      unfold sucs
      exact List.mem_map.2 ⟨_, mem_getD hk, hb⟩
  · rcases List.mem_cons.1 hp with rfl | hp
    · cases hMp : M p with
      | false => rfl
      | true => rw [h.mono p hMp] at hM; cases hM
    · exact hp2 p hp
  · rcases addM_iff.1 hd with hd | rfl
    · rcases hp3 d hd with h1 | h1
      · exact .inl h1
      · exact .inr (List.mem_cons_of_mem _ h1)
    · exact .inr List.mem_cons_self
  · rcases Nat.lt_or_ge j k with h' | h'
    · exact addM_iff.2 (.inl (h.fst j h'))
    · obtain rfl : j = k := by omega
      exact addM_iff.2 (.inr hb)
theorem IN.done {ws : List Int} {l : List Nat} {rs : List Int} {M : Nat → Bool} {a : Nat} {c : List Nat} {M' : Nat → Bool} {c' : List Nat} {xs xs0 : List Int} {lst lst0 : Nat} (h0 : OT ws l rs M (a :: c) xs0 lst0) (h : IN ws l rs M a c (adrP ws a (tgN ws a)).length M' c' xs lst) :
    OT ws l rs M' c' xs lst ∧ openN l M' c' < openN l M (a :: c) := by
  obtain ⟨ps, rfl, hp2, hp3⟩ := h.ps
  have ham : M a = true := h0.ms.cm a List.mem_cons_self
  have hac : a ∉ ps ++ c := fun hm => by
    rcases List.mem_append.1 hm with hm | hm
    · rw [hp2 a hm] at ham; cases ham
    · exact (List.nodup_cons.1 h0.ms.nd).1 hm
  refine ⟨⟨h.ms, h.snd, fun x hx hk => h.mono _ (h0.rts x hx hk), fun b hb hbc d hd => ?_⟩, ?_⟩
  · by_cases hba : b = a
    · subst hba
      unfold sucs at hd
      obtain ⟨i, hi, rfl⟩ := List.mem_map.1 hd
      obtain ⟨j, hj, rfl⟩ := getD_of_mem hi
      exact h.fst j hj
    · rcases hp3 b hb with h1 | h1
      · exact h.mono _ (h0.clo b h1 (fun hm => by
          rcases List.mem_cons.1 hm with rfl | hm
          · exact hba rfl
          · exact hbc (List.mem_append_right _ hm)) d hd)
      · exact absurd (List.mem_append_left _ h1) hbc
  · unfold openN
    refine (filter_less (fun x hx => ?_) l).2 ⟨a, h0.ms.sub a ham, ?_, ?_⟩
    · simp only [Bool.not_eq_true', Bool.and_eq_false_iff, decide_eq_false_iff_not, Decidable.not_not] at hx ⊢
      rcases hx with hx | hx
      · left
        cases hMx : M x with
        | false => rfl
        | true => rw [h.mono x hMx] at hx; cases hx
      · rcases List.mem_append.1 hx with hx | hx
        · exact .inl (hp2 x hx)
        · exact .inr (List.mem_cons_of_mem _ hx)
    · simp
    · simp only [Bool.not_eq_false', Bool.and_eq_true, decide_eq_true_eq]
      exact ⟨h.mono a ham, hac⟩
theorem OT.whole {ws : List Int} {l : List Nat} {rs : List Int} {M : Nat → Bool} {xs : List Int} {lst : Nat} (h : OT ws l rs M [] xs lst) (a : Nat) : M a = true ↔ Rch ws rs a := by
  refine ⟨h.snd a, fun hr => ?_⟩
  induction hr with
  | root hx hk => exact h.rts _ hx hk
  | step _ hb ih => exact h.clo _ ih (by simp) _ hb
/-- The words behind the marking; M says what is marked. -/
structure Mkd (ws : List Int) (l : List Nat) (M : Nat → Bool) (xs : List Int) : Prop where
  len : xs.length = ws.length
  oth : ∀ i, (∀ a, M a = true → i ≠ a ∧ i ≠ a + 1) → xs.getD i 0 = ws.getD i 0
  hd : ∀ a, M a = true → xs.getD a 0 = ws.getD a 0 + 9223372036854775808
  sub : ∀ a, M a = true → a ∈ l
theorem OT.mkd {ws : List Int} {l : List Nat} {rs : List Int} {M : Nat → Bool} {xs : List Int} {lst : Nat} (h : OT ws l rs M [] xs lst) : Mkd ws l M xs := ⟨h.ms.len, h.ms.oth, h.ms.hd, h.ms.sub⟩
theorem chn_zero {xs : List Int} {c : List Nat} {lst : Nat} (h : Chn xs c lst) (h1 : ∀ a ∈ c, 1 ≤ a) : (lst = 0 ↔ c = []) := by
  cases c with
  | nil => exact ⟨fun _ => rfl, fun _ => h⟩
  | cons a c =>
    have := h1 a List.mem_cons_self
    exact ⟨fun e => by have := h.1; omega, fun e => by cases e⟩
end
section
open Go.RowKit
set_option linter.unusedSimpArgs false
set_option linter.unusedVariables false
/-- The place that is free ahead of the k-th object. -/
def frK (l : List Nat) (M : Nat → Bool) (sz : Nat → Nat) : Nat → Nat
  | 0 => 1
  | k + 1 => frK l M sz k + if M (l.getD k 0) = true then sz (l.getD k 0) else 0
theorem frK_le {l : List Nat} {M : Nat → Bool} {sz : Nat → Nat} {tn : Nat} (h : Objs l sz tn) : ∀ k, k ≤ l.length → frK l M sz k ≤ nxO l tn k := by
  intro k
  induction k with
  | zero => intro _; rw [h.one]; exact Nat.le_refl _
  | succ k ih =>
    intro hk
    have h1 := ih (by omega)
    rw [nxO_lt (by omega)] at h1
    rw [h.step k (by omega)]
    unfold frK
    split <;> omega
theorem frK_mono {l : List Nat} {M : Nat → Bool} {sz : Nat → Nat} {i j : Nat} (h : i ≤ j) : frK l M sz i ≤ frK l M sz j := by
  induction j with
  | zero => obtain rfl : i = 0 := by omega
            exact Nat.le_refl _
  | succ j ih =>
    rcases Nat.lt_or_ge i (j + 1) with h' | h'
    · have := ih (by omega)
      have h2 : frK l M sz (j + 1) = frK l M sz j + if M (l.getD j 0) = true then sz (l.getD j 0) else 0 := rfl
      omega
    · obtain rfl : i = j + 1 := by omega
      exact Nat.le_refl _
/-- Where an object will lie. -/
def dstA (l : List Nat) (M : Nat → Bool) (sz : Nat → Nat) (a : Nat) : Nat := frK l M sz (l.findIdx (· == a))
theorem findIdx_getD {l : List Nat} (h : l.Pairwise (· < ·)) {k : Nat} (hk : k < l.length) : l.findIdx (· == l.getD k 0) = k := by
  have hg : l.getD k 0 = l[k] := by rw [List.getD_eq_getElem?_getD, List.getElem?_eq_getElem hk]; rfl
  rw [hg]
  refine (List.findIdx_eq hk).2 ⟨by simp, fun j hj => ?_⟩
  have := List.pairwise_iff_getElem.1 h j k (by omega) hk hj
  simp
  omega
theorem dst_at {l : List Nat} {M : Nat → Bool} {sz : Nat → Nat} (h : l.Pairwise (· < ·)) {k : Nat} (hk : k < l.length) : dstA l M sz (l.getD k 0) = frK l M sz k := by
  unfold dstA; rw [findIdx_getD h hk]
/-- The words while the forwards are laid: the first k objects are done. -/
structure FW (ws : List Int) (l : List Nat) (M : Nat → Bool) (k : Nat) (xs : List Int) : Prop where
  mk0 : Mkd ws l M xs
  fwd : ∀ j, j < k → M (l.getD j 0) = true → xs.getD (l.getD j 0 + 1) 0 = frK l M (szN ws) j
theorem FW.start {ws : List Int} {l : List Nat} {M : Nat → Bool} {xs : List Int} (h : Mkd ws l M xs) : FW ws l M 0 xs := ⟨h, fun j hj => absurd hj (Nat.not_lt_zero _)⟩
theorem FW.skip {ws : List Int} {l : List Nat} {M : Nat → Bool} {k : Nat} {xs : List Int} (h : FW ws l M k xs) (hM : M (l.getD k 0) = false) : FW ws l M (k + 1) xs :=
  ⟨h.mk0, fun j hj hm => by
    rcases Nat.lt_or_ge j k with h' | h'
    · exact h.fwd j h' hm
    · obtain rfl : j = k := by omega
      rw [hM] at hm; cases hm⟩
theorem FW.put {ws : List Int} {tn : Nat} {l : List Nat} {M : Nat → Bool} {k : Nat} {xs : List Int} (h : FW ws l M k xs) (ho : Ob ws tn l) (hk : k < l.length) (hM : M (l.getD k 0) = true) : FW ws l M (k + 1) (xs.set (l.getD k 0 + 1) (frK l M (szN ws) k)) := by
  have ha := mem_getD hk
  have h1 := ho.in1 _ ha
  have hle := ho.le
  have hlen := h.mk0.len
  have hg : ∀ i, (xs.set (l.getD k 0 + 1) ((frK l M (szN ws) k : Nat) : Int)).getD i 0 = if i = l.getD k 0 + 1 then ((frK l M (szN ws) k : Nat) : Int) else xs.getD i 0 := fun i => by
    rw [getD_set]
    by_cases e : i = l.getD k 0 + 1
    · rw [if_pos ⟨e, by omega⟩, if_pos e]
    · rw [if_neg (fun g => e g.1), if_neg e]
  have hsep : ∀ b ∈ l, b ≠ l.getD k 0 + 1 := fun b hb e => by
    have h3 := ho.apart _ ha b hb
    have h4 := ho.in1 b hb
    omega
  refine ⟨⟨by rw [List.length_set]; exact hlen, fun i hi => ?_, fun a ha' => ?_, h.mk0.sub⟩, fun j hj hm => ?_⟩
  · rw [hg, if_neg (hi _ hM).2]; exact h.mk0.oth i hi
  · rw [hg, if_neg (hsep a (h.mk0.sub a ha'))]; exact h.mk0.hd a ha'
  · rw [hg]
    rcases Nat.lt_or_ge j k with h' | h'
    · have h5 := rising_lt ho.rising h' hk
      rw [if_neg (by omega)]
      exact h.fwd j h' hm
    · obtain rfl : j = k := by omega
      rw [if_pos rfl]
theorem FW.all {ws : List Int} {tn : Nat} {l : List Nat} {M : Nat → Bool} {xs : List Int} (h : FW ws l M l.length xs) (ho : Ob ws tn l) {a : Nat} (ha : M a = true) : xs.getD (a + 1) 0 = dstA l M (szN ws) a := by
  obtain ⟨k, hk, rfl⟩ := getD_of_mem (h.mk0.sub a ha)
  rw [dst_at ho.rising hk]
  exact h.fwd k hk ha
/-- The head of an object, marked or not. -/
theorem Mkd.head {ws : List Int} {tn : Nat} {l : List Nat} {M : Nat → Bool} {xs : List Int} (h : Mkd ws l M xs) (ho : Ob ws tn l) {a : Nat} (ha : a ∈ l) : (M a = true → 9223372036854775808 ≤ xs.getD a 0) ∧ (M a = false → xs.getD a 0 < 9223372036854775808) ∧ 0 ≤ xs.getD a 0 ∧ xs.getD a 0 ≤ 18446744073709551615 ∧ hS (xs.getD a 0) = szN ws a ∧ hT (xs.getD a 0) = tgN ws a := by
  have h1 := ho.head a ha
  have h2 := hS_lo (ws.getD a 0)
  have h3 := hT_lo (ws.getD a 0)
  cases hM : M a
  · have e : xs.getD a 0 = ws.getD a 0 := h.oth a fun b hb => by
      have h4 := ho.apart a ha b (h.sub b hb)
      have h5 := ho.in1 b (h.sub b hb)
      have h6 := ho.in1 a ha
      have : a ≠ b := fun e => by rw [e, hb] at hM; cases hM
      omega
    rw [e]
    unfold szN tgN
    refine ⟨fun g => (by cases g), fun _ => ?_, ?_, ?_, ?_, ?_⟩ <;> omega
  · have e := h.hd a hM
    rw [e, hS_mk h1.1, hT_mk h1.1]
    unfold szN tgN
    refine ⟨fun _ => ?_, fun g => (by cases g), ?_, ?_, ?_, ?_⟩ <;> omega
end
section
open Go.RowKit
set_option linter.unusedSimpArgs false
set_option linter.unusedVariables false
/-- What an address becomes. -/
def trn (ws : List Int) (l : List Nat) (M : Nat → Bool) (i : Nat) : Int := 4 * (dstA l M (szN ws) (ws.getD i 0 / 4).toNat : Int)
/-- The words while the addresses are turned: those of the first k objects are done, and the first q of the next one's. -/
structure TN (ws : List Int) (l : List Nat) (M : Nat → Bool) (k q : Nat) (xs : List Int) : Prop where
  len : xs.length = ws.length
  hd : ∀ a, M a = true → xs.getD a 0 = ws.getD a 0 + 9223372036854775808
  fwd : ∀ a, M a = true → xs.getD (a + 1) 0 = dstA l M (szN ws) a
  done : ∀ j, j < k → M (l.getD j 0) = true → ∀ i ∈ adrP ws (l.getD j 0) (tgN ws (l.getD j 0)), xs.getD i 0 = trn ws l M i
  now : ∀ p, p < q → p < (adrP ws (l.getD k 0) (tgN ws (l.getD k 0))).length → xs.getD ((adrP ws (l.getD k 0) (tgN ws (l.getD k 0))).getD p 0) 0 = trn ws l M ((adrP ws (l.getD k 0) (tgN ws (l.getD k 0))).getD p 0)
  rest : ∀ i, (∀ a, M a = true → i ≠ a ∧ i ≠ a + 1) → (∀ j, j < k → M (l.getD j 0) = true → i ∉ adrP ws (l.getD j 0) (tgN ws (l.getD j 0))) →
    (∀ p, p < q → p < (adrP ws (l.getD k 0) (tgN ws (l.getD k 0))).length → i ≠ (adrP ws (l.getD k 0) (tgN ws (l.getD k 0))).getD p 0) → xs.getD i 0 = ws.getD i 0
  sub : ∀ a, M a = true → a ∈ l
theorem TN.start {ws : List Int} {tn : Nat} {l : List Nat} {M : Nat → Bool} {xs : List Int} (h : FW ws l M l.length xs) (ho : Ob ws tn l) : TN ws l M 0 0 xs :=
  ⟨h.mk0.len, h.mk0.hd, fun a ha => h.all ho ha, fun _ hj => absurd hj (Nat.not_lt_zero _), fun _ hp => absurd hp (Nat.not_lt_zero _), fun i hi _ _ => h.mk0.oth i hi, h.mk0.sub⟩
theorem adrP_rising (vs : List Int) (a T : Nat) : (adrP vs a T).Pairwise (· < ·) := by
  unfold adrP
  exact List.Pairwise.map _ (fun x y h => by omega) (List.Pairwise.filter _ List.pairwise_lt_range)
theorem adrP_in {vs : List Int} {a T i : Nat} (h : i ∈ adrP vs a T) : a + 2 ≤ i ∧ i < a + 2 + T := by
  obtain ⟨j, h1, rfl, _⟩ := adrP_mem.1 h
  omega
/-- Of an object that isn't marked nothing is turned. -/
theorem TN.skip {ws : List Int} {l : List Nat} {M : Nat → Bool} {k : Nat} {xs : List Int} (h : TN ws l M k 0 xs) (hM : M (l.getD k 0) = false) : TN ws l M (k + 1) 0 xs := by
  refine ⟨h.len, h.hd, h.fwd, fun j hj hm => ?_, fun _ hp => absurd hp (Nat.not_lt_zero _), fun i h1 h2 _ => h.rest i h1 (fun j hj => h2 j (by omega)) (fun _ hp => absurd hp (Nat.not_lt_zero _)), h.sub⟩
  rcases Nat.lt_or_ge j k with h' | h'
  · exact h.done j h' hm
  · obtain rfl : j = k := by omega
    rw [hM] at hm; cases hm
/-- All addresses of the k-th object are turned. -/
theorem TN.next {ws : List Int} {l : List Nat} {M : Nat → Bool} {k : Nat} {xs : List Int} (h : TN ws l M k (adrP ws (l.getD k 0) (tgN ws (l.getD k 0))).length xs) (hM : M (l.getD k 0) = true) : TN ws l M (k + 1) 0 xs := by
  refine ⟨h.len, h.hd, h.fwd, fun j hj hm i hi => ?_, fun _ hp => absurd hp (Nat.not_lt_zero _), fun i h1 h2 _ => h.rest i h1 (fun j hj => h2 j (by omega)) (fun p hp _ e => h2 k (Nat.lt_succ_self k) hM (by rw [e]; exact mem_getD hp)), h.sub⟩
  rcases Nat.lt_or_ge j k with h' | h'
  · exact h.done j h' hm i hi
  · obtain rfl : j = k := by omega
    obtain ⟨p, hp, rfl⟩ := getD_of_mem hi
    exact h.now p hp hp
/-- One address is turned. -/
theorem TN.put {ws : List Int} {tn : Nat} {l : List Nat} {M : Nat → Bool} {k q : Nat} {xs : List Int} (h : TN ws l M k q xs) (ho : Ob ws tn l) (hk : k < l.length) (hM : M (l.getD k 0) = true)
    (hq : q < (adrP ws (l.getD k 0) (tgN ws (l.getD k 0))).length) : TN ws l M k (q + 1) (xs.set ((adrP ws (l.getD k 0) (tgN ws (l.getD k 0))).getD q 0) (trn ws l M ((adrP ws (l.getD k 0) (tgN ws (l.getD k 0))).getD q 0))) := by
  have hal := mem_getD hk
  have h1 := ho.in1 _ hal
  have hle := ho.le
  have hpm := mem_getD hq
  have hpi := adrP_in hpm
  obtain ⟨pos, hpos⟩ : ∃ p, (adrP ws (l.getD k 0) (tgN ws (l.getD k 0))).getD q 0 = p := ⟨_, rfl⟩
  rw [hpos] at hpm hpi ⊢
  have hlen := h.len
  have hg : ∀ i, (xs.set pos (trn ws l M pos)).getD i 0 = if i = pos then trn ws l M pos else xs.getD i 0 := fun i => by
    rw [getD_set]
    by_cases e : i = pos
    · rw [if_pos ⟨e, by omega⟩, if_pos e]
    · rw [if_neg (fun g => e g.1), if_neg e]
  have hsep : ∀ b ∈ l, b ≠ pos ∧ b + 1 ≠ pos := fun b hb => by
    have h3 := ho.apart _ hal b hb
    have h4 := ho.in1 b hb
    rcases h3 with e | e | e
    · rw [← e]; omega
    · omega
    · omega
  have hoth : ∀ j, j < k → pos ∉ adrP ws (l.getD j 0) (tgN ws (l.getD j 0)) := fun j hj hm => by
    have h3 := rising_lt ho.rising hj hk
    have h4 := ho.apart _ (mem_getD (l := l) (i := j) (by omega)) _ hal
    have h5 := ho.in1 _ (mem_getD (l := l) (i := j) (by omega))
    have h6 := adrP_in hm
    omega
  refine ⟨by rw [List.length_set]; exact hlen, fun a ha => ?_, fun a ha => ?_, fun j hj hm i hi => ?_, fun p hp hpl => ?_, fun i i1 i2 i3 => ?_, h.sub⟩
  · rw [hg, if_neg (hsep a (h.sub a ha)).1]; exact h.hd a ha
  · rw [hg, if_neg (hsep a (h.sub a ha)).2]; exact h.fwd a ha
  · rw [hg, if_neg (fun e => hoth j hj (by rw [← e]; exact hi))]; exact h.done j hj hm i hi
  · rw [hg]
    rcases Nat.lt_or_ge p q with h' | h'
    · have := rising_lt (adrP_rising ws (l.getD k 0) (tgN ws (l.getD k 0))) h' hq
      rw [hpos] at this
      rw [if_neg (by omega)]
      exact h.now p h' hpl
    · obtain rfl : p = q := by omega
      rw [hpos, if_pos rfl]
  · have h3 := i3 q (Nat.lt_succ_self q) hq
    rw [hpos] at h3
    rw [hg, if_neg h3]
    exact h.rest i i1 i2 (fun p hp => i3 p (by omega))
/-- The words that the walk reads: heads, tagged words not yet turned, forwards. -/
theorem TN.head {ws : List Int} {tn : Nat} {l : List Nat} {M : Nat → Bool} {k q : Nat} {xs : List Int} (h : TN ws l M k q xs) (ho : Ob ws tn l) (hk : k < l.length) {a : Nat} (ha : a ∈ l) : (M a = true → 9223372036854775808 ≤ xs.getD a 0) ∧ (M a = false → xs.getD a 0 < 9223372036854775808) ∧ 0 ≤ xs.getD a 0 ∧ xs.getD a 0 ≤ 18446744073709551615 ∧ hS (xs.getD a 0) = szN ws a ∧ hT (xs.getD a 0) = tgN ws a := by
  have h1 := ho.head a ha
  have h2 := hS_lo (ws.getD a 0)
  have h3 := hT_lo (ws.getD a 0)
  have h6 := ho.in1 a ha
  cases hM : M a
  · have e : xs.getD a 0 = ws.getD a 0 := h.rest a (fun b hb => by
      have h4 := ho.apart a ha b (h.sub b hb)
      have h5 := ho.in1 b (h.sub b hb)
      have : a ≠ b := fun e => by rw [e, hb] at hM; cases hM
      omega) (fun j hj _ hm => by
      have h4 := ho.apart a ha _ (mem_getD (l := l) (i := j) (by omega))
      have h5 := ho.in1 _ (mem_getD (l := l) (i := j) (by omega))
      have h7 := adrP_in hm
      rcases h4 with e | e | e
      · rw [← e] at h7; omega
      · omega
      · omega) (fun p _ hp e => by
      have h4 := ho.apart a ha _ (mem_getD hk)
      have h5 := ho.in1 _ (mem_getD hk)
      have h7 := adrP_in (mem_getD hp)
      rw [← e] at h7
      rcases h4 with e2 | e2 | e2
      · rw [← e2] at h7; omega
      · omega
      · omega)
    rw [e]
    unfold szN tgN
    refine ⟨fun g => (by cases g), fun _ => ?_, ?_, ?_, ?_, ?_⟩ <;> omega
  · have e := h.hd a hM
    rw [e, hS_mk h1.1, hT_mk h1.1]
    unfold szN tgN
    refine ⟨fun _ => ?_, fun g => (by cases g), ?_, ?_, ?_, ?_⟩ <;> omega
end
section
open Go.RowKit
set_option linter.unusedSimpArgs false
set_option linter.unusedVariables false
/-- A part of a list laid over another place of it. -/
def spl (xs : List Int) (tw a s : Nat) : List Int := xs.take tw ++ ((xs.drop a).take s ++ xs.drop (tw + s))
theorem spl_len {xs : List Int} {tw a s : Nat} (h1 : tw ≤ a) (h2 : a + s ≤ xs.length) : (spl xs tw a s).length = xs.length := by
  unfold spl
  simp only [List.length_append, List.length_take, List.length_drop]
  omega
theorem spl_getD {xs : List Int} {tw a s : Nat} (h1 : tw ≤ a) (h2 : a + s ≤ xs.length) (i : Nat) : (spl xs tw a s).getD i 0 = if tw ≤ i ∧ i < tw + s then xs.getD (a + (i - tw)) 0 else xs.getD i 0 := by
  have hA : (xs.take tw).length = tw := by rw [List.length_take]; omega
  have hB : ((xs.drop a).take s).length = s := by rw [List.length_take, List.length_drop]; omega
  unfold spl
  rcases Nat.lt_or_ge i tw with h | h
  · rw [if_neg (by omega), List.getD_eq_getElem?_getD, List.getElem?_append_left (by omega), ← List.getD_eq_getElem?_getD, getD_take, if_pos h]
  · rw [List.getD_eq_getElem?_getD, List.getElem?_append_right (by omega), hA]
    rcases Nat.lt_or_ge (i - tw) s with h' | h'
    · rw [List.getElem?_append_left (by omega), ← List.getD_eq_getElem?_getD, getD_take, if_pos h', getD_drop, if_pos ⟨h, by omega⟩]
    · rw [List.getElem?_append_right (by omega), hB, ← List.getD_eq_getElem?_getD, getD_drop, if_neg (by omega)]
      congr 1; omega
/-- The p-th word of an object behind the collection, ys being the words with addresses turned. -/
def outW (ws ys : List Int) (a p : Nat) : Int := if p = 0 then ws.getD a 0 else if p = 1 then 0 else ys.getD (a + p) 0
/-- The first k objects have slid down. -/
structure SD (ws : List Int) (tn : Nat) (l : List Nat) (M : Nat → Bool) (ys : List Int) (k : Nat) (xs : List Int) : Prop where
  len : xs.length = ws.length
  nought : xs.getD 0 0 = ys.getD 0 0
  low : ∀ j, j < k → M (l.getD j 0) = true → ∀ p, p < szN ws (l.getD j 0) → xs.getD (frK l M (szN ws) j + p) 0 = outW ws ys (l.getD j 0) p
  high : ∀ i, nxO l tn k ≤ i → xs.getD i 0 = ys.getD i 0
theorem SD.start {ws : List Int} {tn : Nat} {l : List Nat} {M : Nat → Bool} {ys : List Int} (h : TN ws l M l.length 0 ys) : SD ws tn l M ys 0 ys :=
  ⟨h.len, rfl, fun _ hj => absurd hj (Nat.not_lt_zero _), fun _ _ => rfl⟩
theorem SD.skip {ws : List Int} {tn : Nat} {l : List Nat} {M : Nat → Bool} {ys : List Int} {k : Nat} {xs : List Int} (h : SD ws tn l M ys k xs) (ho : Ob ws tn l) (hk : k < l.length) (hM : M (l.getD k 0) = false) : SD ws tn l M ys (k + 1) xs := by
  have h1 := ho.step k hk
  refine ⟨h.len, h.nought, fun j hj hm => ?_, fun i hi => h.high i (by rw [nxO_lt hk]; omega)⟩
  rcases Nat.lt_or_ge j k with h' | h'
  · exact h.low j h' hm
  · obtain rfl : j = k := by omega
    rw [hM] at hm; cases hm
/-- The words behind one object's move. -/
def mvd (ws xs : List Int) (a tw s : Nat) : List Int := spl ((xs.set a (ws.getD a 0)).set (a + 1) 0) tw a s
theorem SD.put {ws : List Int} {tn : Nat} {l : List Nat} {M : Nat → Bool} {ys : List Int} {k : Nat} {xs : List Int} (h : SD ws tn l M ys k xs) (ho : Ob ws tn l) (hk : k < l.length) (hM : M (l.getD k 0) = true) :
    SD ws tn l M ys (k + 1) (mvd ws xs (l.getD k 0) (frK l M (szN ws) k) (szN ws (l.getD k 0))) := by
  have hal := mem_getD hk
  have h1 := ho.in1 _ hal
  have hst := ho.step k hk
  have hfr := frK_le (M := M) ho.objs k (Nat.le_of_lt hk)
  rw [nxO_lt hk] at hfr
  have hle := ho.le
  have hlen := h.len
  have hf1 : 1 ≤ frK l M (szN ws) k := frK_mono (l := l) (M := M) (sz := szN ws) (Nat.zero_le k)
  have hlow : ∀ j, j < k → M (l.getD j 0) = true → frK l M (szN ws) j + szN ws (l.getD j 0) ≤ frK l M (szN ws) k := fun j hj hm => by
    have h2 := frK_mono (l := l) (M := M) (sz := szN ws) (i := j + 1) (j := k) hj
    have h3 : frK l M (szN ws) (j + 1) = frK l M (szN ws) j + if M (l.getD j 0) = true then szN ws (l.getD j 0) else 0 := rfl
    rw [if_pos hm] at h3
    omega
  have hhi : ∀ i, l.getD k 0 ≤ i → xs.getD i 0 = ys.getD i 0 := fun i hi => h.high i (by rw [nxO_lt hk]; exact hi)
  generalize hto : frK l M (szN ws) k = tw at *
  generalize ha : l.getD k 0 = a at *
  generalize hs : szN ws a = s at *
  have hg : ∀ i, ((xs.set a (ws.getD a 0)).set (a + 1) 0).getD i 0 = if i = a + 1 then 0 else if i = a then ws.getD a 0 else xs.getD i 0 := fun i => by
    rw [getD_set, getD_set, List.length_set]
    by_cases e1 : i = a + 1
    · rw [if_pos ⟨e1, by omega⟩, if_pos e1]
    · rw [if_neg (fun g => e1 g.1), if_neg e1]
      by_cases e2 : i = a
      · rw [if_pos ⟨e2, by omega⟩, if_pos e2]
      · rw [if_neg (fun g => e2 g.1), if_neg e2]
  have hl2 : ((xs.set a (ws.getD a 0)).set (a + 1) 0).length = xs.length := by rw [List.length_set, List.length_set]
  have hm : ∀ i, (mvd ws xs a tw s).getD i 0 = if tw ≤ i ∧ i < tw + s then ((xs.set a (ws.getD a 0)).set (a + 1) 0).getD (a + (i - tw)) 0 else ((xs.set a (ws.getD a 0)).set (a + 1) 0).getD i 0 := fun i => by
    unfold mvd
    exact spl_getD hfr (by omega) i
  refine ⟨by unfold mvd; rw [spl_len hfr (by omega), hl2]; exact hlen, ?_, fun j hj hmj p hp => ?_, fun i hi => ?_⟩
  · rw [hm, if_neg (by omega), hg, if_neg (by omega), if_neg (by omega)]; exact h.nought
  · rcases Nat.lt_or_ge j k with h' | h'
    · have h5 := hlow j h' hmj
      rw [hm, if_neg (by omega), hg, if_neg (by omega), if_neg (by omega)]
      exact h.low j h' hmj p hp
    · obtain rfl : j = k := by omega
      rw [ha, hs] at hp
      rw [hto, ha, hm, if_pos ⟨by omega, by omega⟩, show a + (tw + p - tw) = a + p by omega, hg]
      unfold outW
      by_cases p0 : p = 0
      · rw [if_pos p0, if_neg (by omega), if_pos (by omega)]
      · rw [if_neg p0]
        by_cases p1 : p = 1
        · rw [if_pos p1, if_pos (by omega)]
        · rw [if_neg p1, if_neg (by omega), if_neg (by omega)]
          exact hhi _ (by omega)
  · rw [hm, if_neg (by omega), hg, if_neg (by omega), if_neg (by omega)]
    exact hhi i (by omega)
end
section
open Go.RowKit
set_option linter.unusedSimpArgs false
set_option linter.unusedVariables false
/-- The p-th word of an object behind the collection. -/
def outT (ws : List Int) (l : List Nat) (M : Nat → Bool) (a p : Nat) : Int :=
  if p = 0 then ws.getD a 0 else if p = 1 then 0 else if p < 2 + tgN ws a ∧ ws.getD (a + p) 0 % 4 = 0 then trn ws l M (a + p) else ws.getD (a + p) 0
theorem out_eq {ws : List Int} {tn : Nat} {l : List Nat} {M : Nat → Bool} {ys : List Int} (h : TN ws l M l.length 0 ys) (ho : Ob ws tn l) {a p : Nat} (ha : M a = true) (hp : p < szN ws a) : outW ws ys a p = outT ws l M a p := by
  have hal := h.sub a ha
  have hi := ho.in1 a hal
  unfold outW outT
  by_cases p0 : p = 0
  · rw [if_pos p0, if_pos p0]
  · rw [if_neg p0, if_neg p0]
    by_cases p1 : p = 1
    · rw [if_pos p1, if_pos p1]
    · rw [if_neg p1, if_neg p1]
      obtain ⟨k, hk, rfl⟩ := getD_of_mem hal
      by_cases hA : p < 2 + tgN ws (l.getD k 0) ∧ ws.getD (l.getD k 0 + p) 0 % 4 = 0
      · rw [if_pos hA]
        exact h.done k hk ha _ (adrP_mem.2 ⟨p - 2, by omega, by omega, hA.2⟩)
      · rw [if_neg hA]
        refine h.rest _ (fun b hb => ?_) (fun j hj hmj hm => ?_) (fun q hq => absurd hq (Nat.not_lt_zero _))
        · have h3 := ho.apart _ hal b (h.sub b hb)
          have h4 := ho.in1 b (h.sub b hb)
          rcases h3 with e | e | e
          · rw [← e]; omega
          · omega
          · omega
        · obtain ⟨u, h1, h2, h3⟩ := adrP_mem.1 hm
          have h5 := ho.apart _ hal _ (mem_getD (l := l) (i := j) hj)
          have h6 := ho.in1 _ (mem_getD (l := l) (i := j) hj)
          rcases h5 with e | e | e
          · rw [← e] at h1 h2
            exact hA ⟨by omega, h3⟩
          · omega
          · omega
/-- What a collection leaves: the marked objects one behind the other, then noughts. -/
structure CO (ws : List Int) (l : List Nat) (M : Nat → Bool) (res : List Int) : Prop where
  len : res.length = ws.length
  nought : res.getD 0 0 = ws.getD 0 0
  low : ∀ j, j < l.length → M (l.getD j 0) = true → ∀ p, p < szN ws (l.getD j 0) → res.getD (frK l M (szN ws) j + p) 0 = outT ws l M (l.getD j 0) p
  zero : ∀ i, frK l M (szN ws) l.length ≤ i → res.getD i 0 = 0
/-- The words behind the clearing. -/
def cleared (zs : List Int) (f t : Nat) : List Int := zs.take f ++ (List.replicate (t - f) 0 ++ zs.drop t)
theorem cleared_getD {zs : List Int} {f t : Nat} (h1 : f ≤ t) (h2 : t ≤ zs.length) (i : Nat) : (cleared zs f t).getD i 0 = if f ≤ i ∧ i < t then 0 else zs.getD i 0 := by
  have hA : (zs.take f).length = f := by rw [List.length_take]; omega
  unfold cleared
  rcases Nat.lt_or_ge i f with h | h
  · rw [if_neg (by omega), List.getD_eq_getElem?_getD, List.getElem?_append_left (by omega), ← List.getD_eq_getElem?_getD, getD_take, if_pos h]
  · rw [List.getD_eq_getElem?_getD, List.getElem?_append_right (by omega), hA]
    rcases Nat.lt_or_ge i t with h' | h'
    · rw [if_pos ⟨h, h'⟩, List.getElem?_append_left (by simp; omega), List.getElem?_replicate, if_pos (by omega)]; rfl
    · rw [if_neg (by omega), List.getElem?_append_right (by simp; omega), List.length_replicate, ← List.getD_eq_getElem?_getD, getD_drop]
      congr 1; omega
theorem cleared_len {zs : List Int} {f t : Nat} (h1 : f ≤ t) (h2 : t ≤ zs.length) : (cleared zs f t).length = zs.length := by
  unfold cleared; simp only [List.length_append, List.length_take, List.length_replicate, List.length_drop]; omega
theorem SD.co {ws : List Int} {tn : Nat} {l : List Nat} {M : Nat → Bool} {ys zs : List Int} (h : SD ws tn l M ys l.length zs) (hy : TN ws l M l.length 0 ys) (ho : Ob ws tn l) (h1 : 1 ≤ tn) (hfree : ∀ i, tn ≤ i → ws.getD i 0 = 0) :
    CO ws l M (cleared zs (frK l M (szN ws) l.length) tn) := by
  have hf : frK l M (szN ws) l.length ≤ tn := by
    have := frK_le (M := M) ho.objs l.length (Nat.le_refl _)
    rw [nxO_ge (Nat.lt_irrefl _)] at this; exact this
  have hle := ho.le
  have hlen := h.len
  have hf1 : 1 ≤ frK l M (szN ws) l.length := frK_mono (l := l) (M := M) (sz := szN ws) (Nat.zero_le _)
  have hlo : ∀ i, i = 0 ∨ tn ≤ i → ys.getD i 0 = ws.getD i 0 := fun i hi => hy.rest i (fun a ha => by
    have := ho.in1 a (hy.sub a ha)
    omega) (fun j hj _ hm => by
    have h3 := adrP_in hm
    have := ho.in1 _ (mem_getD (l := l) (i := j) hj)
    omega) (fun q hq => absurd hq (Nat.not_lt_zero _))
  refine ⟨by rw [cleared_len hf (by omega)]; exact hlen, ?_, fun j hj hm p hp => ?_, fun i hi => ?_⟩
  · rw [cleared_getD hf (by omega), if_neg (by omega), h.nought, hlo 0 (.inl rfl)]
  · have h2 := frK_mono (l := l) (M := M) (sz := szN ws) (i := j + 1) (j := l.length) hj
    have h3 : frK l M (szN ws) (j + 1) = frK l M (szN ws) j + if M (l.getD j 0) = true then szN ws (l.getD j 0) else 0 := rfl
    rw [if_pos hm] at h3
    rw [cleared_getD hf (by omega), if_neg (by omega), h.low j hj hm p hp]
    exact out_eq hy ho hm hp
  · rw [cleared_getD hf (by omega)]
    by_cases hc : frK l M (szN ws) l.length ≤ i ∧ i < tn
    · rw [if_pos hc]
    · rw [if_neg hc, h.high i (by rw [nxO_ge (Nat.lt_irrefl _)]; omega), hlo i (.inr (by omega)), hfree i (by omega)]
/-- What the marked ones' addresses lead to is marked. -/
theorem clo_of {ws rs : List Int} {M : Nat → Bool} (h : ∀ a, M a = true ↔ Rch ws rs a) (a : Nat) (ha : M a = true) (i : Nat) (hi : i ∈ adrP ws a (tgN ws a)) : M (ws.getD i 0 / 4).toNat = true :=
  (h _).2 (Rch.step ((h a).1 ha) (List.mem_map.2 ⟨i, hi, rfl⟩))
end
end Go.Proofs.Ytfhjpgbnojdlkaa
