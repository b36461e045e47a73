/- Liveness over numbered places, as plain data: rows of words, the steps of the work list, what they come to. -/
import Derived.Laws.BitsAllLaws
namespace Go.Proofs.YtnniohimbmnapaaDoor
open Go
set_option linter.unusedVariables false
set_option linter.unusedSimpArgs false
def hasW (row : List Nat) (r : Nat) : Bool := (row.getD (r / 64) 0).testBit (r % 64)
def setW (row : List Nat) (r : Nat) : List Nat := row.set (r / 64) (row.getD (r / 64) 0 ||| 2 ^ (r % 64))
def clrW (row : List Nat) (r : Nat) : List Nat := row.set (r / 64) (row.getD (r / 64) 0 &&& (18446744073709551615 - 2 ^ (r % 64)))
def orW (a b : List Nat) : List Nat := (List.range a.length).map fun i => a.getD i 0 ||| b.getD i 0
structure OkW (s : Nat) (row : List Nat) : Prop where
  len : row.length = s
  lt : ∀ i, row.getD i 0 < 18446744073709551616
theorem getD_setN (l : List Nat) (i j v : Nat) : (l.set i v).getD j 0 = if i = j ∧ i < l.length then v else l.getD j 0 := by
  simp only [List.getD_eq_getElem?_getD, List.getElem?_set]
  by_cases h : i = j
  · subst h
    by_cases h2 : i < l.length
    · simp [h2]
    · simp [h2, List.getElem?_eq_none (Nat.le_of_not_lt h2)]
  · simp [h]
theorem two_lt {k : Nat} (hk : k < 64) : 2 ^ k < 18446744073709551616 := by
  have : 2 ^ k < 2 ^ 64 := Nat.pow_lt_pow_right (by decide) hk
  simpa using this
theorem has_out {row : List Nat} {q : Nat} (h : 64 * row.length ≤ q) : hasW row q = false := by
  unfold hasW
  rw [List.getD_eq_getElem?_getD, List.getElem?_eq_none (by omega)]
  simp
theorem has_set {row : List Nat} {r q : Nat} (h : r / 64 < row.length) : hasW (setW row r) q = (hasW row q || decide (q = r)) := by
  unfold hasW setW
  rw [getD_setN]
  by_cases e : r / 64 = q / 64
  · rw [if_pos ⟨e, h⟩, Nat.testBit_or, Nat.testBit_two_pow, ← e]
    congr 1
    by_cases e2 : r % 64 = q % 64
    · have : q = r := by omega
      simp [this]
    · have : q ≠ r := by rintro rfl; exact e2 rfl
      simp [e2, this]
  · rw [if_neg (fun h => e h.1)]
    have : q ≠ r := by rintro rfl; exact e rfl
    simp [this]
theorem has_clr {row : List Nat} {r q : Nat} (h : r / 64 < row.length) : hasW (clrW row r) q = (hasW row q && !decide (q = r)) := by
  unfold hasW clrW
  rw [getD_setN]
  by_cases e : r / 64 = q / 64
  · have h1 : r % 64 < 64 := Nat.mod_lt _ (by decide)
    have h2 : q % 64 < 64 := Nat.mod_lt _ (by decide)
    have ht : (18446744073709551615 - 2 ^ (r % 64)) = 2 ^ 64 - (2 ^ (r % 64) + 1) := by omega
    rw [if_pos ⟨e, h⟩, Nat.testBit_and, ht, Nat.testBit_two_pow_sub_succ (by have := two_lt h1; simpa using this), Nat.testBit_two_pow, ← e]
    congr 1
    by_cases e2 : r % 64 = q % 64
    · have : q = r := by omega
      simp [this, h1]
    · have : q ≠ r := by rintro rfl; exact e2 rfl
      simp [e2, this, h2]
  · rw [if_neg (fun h => e h.1)]
    have : q ≠ r := by rintro rfl; exact e rfl
    simp [this]
theorem orW_getD {a b : List Nat} {i : Nat} (h : i < a.length) : (orW a b).getD i 0 = a.getD i 0 ||| b.getD i 0 := by
  unfold orW
  rw [List.getD_eq_getElem?_getD, List.getElem?_map, List.getElem?_range h]
  rfl
theorem orW_len (a b : List Nat) : (orW a b).length = a.length := by simp [orW]
theorem has_or {a b : List Nat} {q : Nat} (h : a.length = b.length) : hasW (orW a b) q = (hasW a q || hasW b q) := by
  by_cases hq : q / 64 < a.length
  · unfold hasW
    rw [orW_getD hq, Nat.testBit_or]
  · have h1 : 64 * a.length ≤ q := by omega
    rw [has_out (by rw [orW_len]; exact h1), has_out h1, has_out (h ▸ h1)]; rfl
theorem OkW.set {s : Nat} {row : List Nat} (h : OkW s row) (r : Nat) : OkW s (setW row r) := by
  refine ⟨by simp [setW, h.len], fun i => ?_⟩
  unfold setW
  rw [getD_setN]
  split
  · have := Nat.or_lt_two_pow (n := 64) (by simpa using h.lt (r / 64)) (by simpa using two_lt (Nat.mod_lt r (by decide)))
    simpa using this
  · exact h.lt i
theorem OkW.clr {s : Nat} {row : List Nat} (h : OkW s row) (r : Nat) : OkW s (clrW row r) := by
  refine ⟨by simp [clrW, h.len], fun i => ?_⟩
  unfold clrW
  rw [getD_setN]
  split
  · exact Nat.lt_of_le_of_lt Nat.and_le_left (h.lt _)
  · exact h.lt i
theorem OkW.or {s : Nat} {a b : List Nat} (h : OkW s a) (k : OkW s b) : OkW s (orW a b) := by
  refine ⟨by rw [orW_len, h.len], fun i => ?_⟩
  by_cases hi : i < a.length
  · rw [orW_getD hi]
    have := Nat.or_lt_two_pow (n := 64) (by simpa using h.lt i) (by simpa using k.lt i)
    simpa using this
  · rw [List.getD_eq_getElem?_getD, List.getElem?_eq_none (by rw [orW_len]; omega)]
    decide
theorem OkW.zero (s : Nat) : OkW s (List.replicate s 0) := by
  refine ⟨by simp, fun i => ?_⟩
  rw [List.getD_eq_getElem?_getD, List.getElem?_replicate]
  split <;> decide
theorem has_zero (s q : Nat) : hasW (List.replicate s 0) q = false := by
  unfold hasW
  rw [List.getD_eq_getElem?_getD, List.getElem?_replicate]
  split <;> simp
theorem row_ext {s : Nat} {a b : List Nat} (ha : OkW s a) (hb : OkW s b) (h : ∀ q, q < 64 * s → hasW a q = hasW b q) : a = b := by
  refine List.ext_getElem (by rw [ha.len, hb.len]) fun i h1 h2 => ?_
  have e1 : a.getD i 0 = a[i] := by simp [List.getD_eq_getElem?_getD, h1]
  have e2 : b.getD i 0 = b[i] := by simp [List.getD_eq_getElem?_getD, h2]
  rw [← e1, ← e2]
  apply Nat.eq_of_testBit_eq
  intro j
  by_cases hj : j < 64
  · have := h (64 * i + j) (by have := ha.len; omega)
    unfold hasW at this
    rwa [show (64 * i + j) / 64 = i by omega, show (64 * i + j) % 64 = j by omega] at this
  · have w1 := Nat.testBit_lt_two_pow (x := a.getD i 0) (i := j) (Nat.lt_of_lt_of_le (ha.lt i) (by have := Nat.pow_le_pow_right (n := 2) (by decide) (Nat.le_of_not_lt hj); simpa using this))
    have w2 := Nat.testBit_lt_two_pow (x := b.getD i 0) (i := j) (Nat.lt_of_lt_of_le (hb.lt i) (by have := Nat.pow_le_pow_right (n := 2) (by decide) (Nat.le_of_not_lt hj); simpa using this))
    rw [w1, w2]
/-- Rows of words whose registers are given one by one. -/
theorem OkW.setAll {s : Nat} : ∀ (rs : List Nat) {row : List Nat}, OkW s row → OkW s (rs.foldl setW row)
  | [], _, h => h
  | r :: rs, _, h => OkW.setAll rs (h.set r)
theorem OkW.clrAll {s : Nat} : ∀ (rs : List Nat) {row : List Nat}, OkW s row → OkW s (rs.foldl clrW row)
  | [], _, h => h
  | r :: rs, _, h => OkW.clrAll rs (h.clr r)
theorem has_setAll {s : Nat} {q : Nat} : ∀ (rs : List Nat) {row : List Nat}, OkW s row → (∀ r ∈ rs, r < 64 * s) → (hasW (rs.foldl setW row) q = true ↔ hasW row q = true ∨ q ∈ rs)
  | [], row, h, _ => by simp
  | r :: rs, row, h, hr => by
    have h1 := hr r (by simp)
    rw [List.foldl_cons, has_setAll rs (h.set r) (fun x hx => hr x (by simp [hx])), has_set (by have := h.len; omega)]
    simp only [Bool.or_eq_true, decide_eq_true_eq, List.mem_cons]
    constructor
    · rintro ((h | h) | h)
      · exact .inl h
      · exact .inr (.inl h)
      · exact .inr (.inr h)
    · rintro (h | h | h)
      · exact .inl (.inl h)
      · exact .inl (.inr h)
      · exact .inr h
theorem has_clrAll {s : Nat} {q : Nat} : ∀ (rs : List Nat) {row : List Nat}, OkW s row → (∀ r ∈ rs, r < 64 * s) → (hasW (rs.foldl clrW row) q = true ↔ hasW row q = true ∧ q ∉ rs)
  | [], row, h, _ => by simp
  | r :: rs, row, h, hr => by
    have h1 := hr r (by simp)
    rw [List.foldl_cons, has_clrAll rs (h.clr r) (fun x hx => hr x (by simp [hx])), has_clr (by have := h.len; omega)]
    simp only [Bool.and_eq_true, Bool.not_eq_true', decide_eq_false_iff_not, List.mem_cons, not_or]
    constructor
    · rintro ⟨⟨h, h2⟩, h3⟩; exact ⟨h, h2, h3⟩
    · rintro ⟨h, h2, h3⟩; exact ⟨⟨h, h2⟩, h3⟩
structure Gr where
  n : Nat
  regs : Nat
  reads : Nat → List Nat
  ways : Nat → List (Nat × List Nat)
structure Gr.Ok (G : Gr) : Prop where
  reads_lt : ∀ x, x < G.n → ∀ r ∈ G.reads x, r < G.regs
  to_lt : ∀ x, x < G.n → ∀ w ∈ G.ways x, w.1 < G.n
  ws_lt : ∀ x, x < G.n → ∀ w ∈ G.ways x, ∀ r ∈ w.2, r < G.regs
  few : ∀ x, x < G.n → (G.ways x).length ≤ 3
def Gr.s (G : Gr) : Nat := (G.regs + 63) / 64
theorem Gr.regs_s (G : Gr) : G.regs ≤ 64 * G.s := by unfold Gr.s; omega
/-- Register r is live ahead of x. -/
inductive Lv (G : Gr) : Nat → Nat → Prop where
  | read {x r : Nat} : r ∈ G.reads x → Lv G x r
  | way {x r : Nat} {w : Nat × List Nat} : w ∈ G.ways x → r ∉ w.2 → Lv G w.1 r → Lv G x r
theorem Lv.lt {G : Gr} (hG : G.Ok) {x r : Nat} (h : Lv G x r) (hx : x < G.n) : r < G.regs := by
  induction h with
  | read h => exact hG.reads_lt _ hx _ h
  | way hw _ _ ih => exact ih (hG.to_lt _ hx _ hw)
def look1 (x : Nat) (st : List (List Nat) × Bool) (w : Nat × List Nat) : List (List Nat) × Bool :=
  (st.1.set x (orW (st.1.getD x []) (w.2.foldl clrW (st.1.getD w.1 []))), st.2 || decide (orW (st.1.getD x []) (w.2.foldl clrW (st.1.getD w.1 [])) ≠ st.1.getD x []))
structure OkL (G : Gr) (L : List (List Nat)) : Prop where
  len : L.length = G.n
  row : ∀ x, x < G.n → OkW G.s (L.getD x [])
theorem getD_setL {α : Type} (l : List α) (i j : Nat) (v d : α) (h : i < l.length) : (l.set i v).getD j d = if i = j then v else l.getD j d := by
  simp only [List.getD_eq_getElem?_getD, List.getElem?_set]
  by_cases e : i = j
  · subst e; simp [h]
  · simp [e]
theorem set_getD_self {α : Type} (l : List α) (i : Nat) (d : α) : l.set i (l.getD i d) = l := by
  refine List.ext_getElem (by simp) fun j h1 h2 => ?_
  rw [List.getElem_set]
  split
  · rename_i e; subst e; simp [List.getD_eq_getElem?_getD, h2]
  · rfl
theorem OkL.look {G : Gr} {L : List (List Nat)} (h : OkL G L) {x : Nat} (hx : x < G.n) {b : Bool} {w : Nat × List Nat} (hw : w.1 < G.n) : OkL G (look1 x (L, b) w).1 := by
  refine ⟨by simp [look1, h.len], fun y hy => ?_⟩
  simp only [look1]
  rw [getD_setL _ _ _ _ _ (by rw [h.len]; exact hx)]
  split
  · exact (h.row x hx).or ((h.row _ hw).clrAll w.2)
  · exact h.row y hy
theorem look_fold {G : Gr} {x : Nat} (hx : x < G.n) : ∀ (ws : List (Nat × List Nat)) (L : List (List Nat)) (b : Bool), OkL G L → (∀ w ∈ ws, w.1 < G.n) → (∀ w ∈ ws, ∀ r ∈ w.2, r < G.regs) →
    OkL G (ws.foldl (look1 x) (L, b)).1 ∧ (∀ y, y ≠ x → (ws.foldl (look1 x) (L, b)).1.getD y [] = L.getD y []) ∧
    (∀ q, hasW (L.getD x []) q = true → hasW ((ws.foldl (look1 x) (L, b)).1.getD x []) q = true) ∧
    (∀ w ∈ ws, ∀ q, q ∉ w.2 → hasW (L.getD w.1 []) q = true → hasW ((ws.foldl (look1 x) (L, b)).1.getD x []) q = true) ∧
    ((ws.foldl (look1 x) (L, b)).2 = true → b = true ∨ ∃ q, q < 64 * G.s ∧ hasW ((ws.foldl (look1 x) (L, b)).1.getD x []) q = true ∧ hasW (L.getD x []) q = false) ∧
    ((ws.foldl (look1 x) (L, b)).2 = false → b = false ∧ (ws.foldl (look1 x) (L, b)).1 = L)
  | [], L, b, h, _, _ => ⟨h, fun _ _ => rfl, fun _ h => h, (fun _ h => by cases h), fun h => .inl h, fun h => ⟨h, rfl⟩⟩
  | w :: ws, L, b, h, h1, h2 => by
    have hw := h1 w (by simp)
    have hok := h.look hx (b := b) hw
    obtain ⟨i1, i2, i3, i4, i5, i6⟩ := look_fold hx ws (look1 x (L, b) w).1 (look1 x (L, b) w).2 hok (fun v hv => h1 v (by simp [hv])) (fun v hv => h2 v (by simp [hv]))
    rw [List.foldl_cons]
    have eL : (look1 x (L, b) w) = ((look1 x (L, b) w).1, (look1 x (L, b) w).2) := rfl
    rw [eL]
    have hlen : x < L.length := by rw [h.len]; exact hx
    have hx1 : (look1 x (L, b) w).1.getD x [] = orW (L.getD x []) (w.2.foldl clrW (L.getD w.1 [])) := by
      simp only [look1]; rw [getD_setL _ _ _ _ _ hlen, if_pos rfl]
    have hy1 : ∀ y, y ≠ x → (look1 x (L, b) w).1.getD y [] = L.getD y [] := fun y hy => by
      simp only [look1]; rw [getD_setL _ _ _ _ _ hlen, if_neg (fun e => hy e.symm)]
    have hrl : (L.getD x []).length = (w.2.foldl clrW (L.getD w.1 [])).length := by rw [(h.row x hx).len, ((h.row _ hw).clrAll w.2).len]
    have hor : ∀ q, hasW ((look1 x (L, b) w).1.getD x []) q = true ↔ hasW (L.getD x []) q = true ∨ (hasW (L.getD w.1 []) q = true ∧ q ∉ w.2) := fun q => by
      rw [hx1, has_or hrl, Bool.or_eq_true, has_clrAll w.2 (h.row _ hw) (fun r hr => Nat.lt_of_lt_of_le (h2 w (by simp) r hr) G.regs_s)]
    refine ⟨i1, fun y hy => (i2 y hy).trans (hy1 y hy), fun q hq => i3 q ((hor q).2 (.inl hq)), ?_, ?_, ?_⟩
    · intro v hv q hq hh
      rcases List.mem_cons.1 hv with rfl | hv
      · exact i3 q ((hor q).2 (.inr ⟨hh, hq⟩))
      · by_cases e : v.1 = x
        · exact i3 q ((hor q).2 (.inl (e ▸ hh)))
        · exact i4 v hv q hq (by rw [hy1 _ e]; exact hh)
    · intro hm
      rcases i5 hm with hb | ⟨q, q1, q2, q3⟩
      · have : b = true ∨ orW (L.getD x []) (w.2.foldl clrW (L.getD w.1 [])) ≠ L.getD x [] := by simpa [look1] using hb
        rcases this with hb | hne
        · exact .inl hb
        · right
          by_cases hall : ∀ q, q < 64 * G.s → hasW (orW (L.getD x []) (w.2.foldl clrW (L.getD w.1 []))) q = hasW (L.getD x []) q
          · exact absurd (row_ext (hx1 ▸ hok.row x hx) (h.row x hx) hall) hne
          · obtain ⟨q, hq⟩ := Classical.not_forall.1 hall
            obtain ⟨hq1, hq2⟩ := Classical.not_imp.1 hq
            refine ⟨q, hq1, ?_, ?_⟩
            · refine i3 q ?_
              rw [hx1]
              cases hc : hasW (L.getD x []) q with
              | true => have := (hor q).2 (.inl hc); rwa [hx1] at this
              | false => cases hd : hasW (orW (L.getD x []) (w.2.foldl clrW (L.getD w.1 []))) q with
                | true => rfl
                | false => exact absurd (hd.trans hc.symm) hq2
            · cases hc : hasW (L.getD x []) q with
              | false => rfl
              | true =>
                have := (hor q).2 (.inl hc)
                rw [hx1] at this
                exact absurd (this.trans hc.symm) hq2
      · refine .inr ⟨q, q1, q2, ?_⟩
        cases hc : hasW (L.getD x []) q with
        | false => rfl
        | true => rw [(hor q).2 (.inl hc)] at q3; exact q3
    · intro hm
      obtain ⟨j1, j2⟩ := i6 hm
      have : b = false ∧ orW (L.getD x []) (w.2.foldl clrW (L.getD w.1 [])) = L.getD x [] := by
        simpa [look1] using j1
      refine ⟨this.1, j2.trans ?_⟩
      simp only [look1]
      rw [this.2, set_getD_self]
theorem look_sound {G : Gr} (hG : G.Ok) {x : Nat} (hx : x < G.n) : ∀ (ws : List (Nat × List Nat)) (L : List (List Nat)) (b : Bool), OkL G L → (∀ w ∈ ws, w ∈ G.ways x) → (∀ y, y < G.n → ∀ q, hasW (L.getD y []) q = true → Lv G y q) →
    ∀ y, y < G.n → ∀ q, hasW ((ws.foldl (look1 x) (L, b)).1.getD y []) q = true → Lv G y q
  | [], L, b, h, _, hs => hs
  | w :: ws, L, b, h, h1, hs => by
    have hww := h1 w (by simp)
    have hw := hG.to_lt x hx w hww
    refine look_sound hG hx ws (look1 x (L, b) w).1 (look1 x (L, b) w).2 (h.look hx hw) (fun v hv => h1 v (by simp [hv])) fun y hy q hq => ?_
    have hlen : x < L.length := by rw [h.len]; exact hx
    simp only [look1] at hq
    rw [getD_setL _ _ _ _ _ hlen] at hq
    split at hq
    · rename_i e
      subst e
      rw [has_or (by rw [(h.row x hx).len, ((h.row _ hw).clrAll w.2).len]), Bool.or_eq_true, has_clrAll w.2 (h.row _ hw) (fun r hr => Nat.lt_of_lt_of_le (hG.ws_lt x hx w hww r hr) G.regs_s)] at hq
      rcases hq with hq | ⟨hq, hn⟩
      · exact hs x hx q hq
      · exact .way hww hn (hs _ hw q hq)
    · exact hs y hy q hq
def wait1 (st : List Bool × List Nat) (p : Nat) : List Bool × List Nat := if st.1.getD p true then st else (st.1.set p true, st.2 ++ [p])
theorem wait_fold {n : Nat} : ∀ (ps : List Nat) (wt : List Bool) (work : List Nat), wt.length = n → (∀ p ∈ ps, p < n) →
    (ps.foldl wait1 (wt, work)).1.length = n ∧ (∀ y, wt.getD y true = true → (ps.foldl wait1 (wt, work)).1.getD y true = true) ∧ (∀ p ∈ ps, (ps.foldl wait1 (wt, work)).1.getD p true = true) ∧
    ∃ ext, (ps.foldl wait1 (wt, work)).2 = work ++ ext ∧ ext.length ≤ ps.length ∧ (∀ y ∈ ext, y < n) ∧ ∀ y, wt.getD y true = false → (ps.foldl wait1 (wt, work)).1.getD y true = true → y ∈ ext
  | [], wt, work, h, _ => ⟨h, fun _ h => h, fun _ h => (by cases h), [], by simp, by simp, fun _ h => (by cases h), fun y h1 h2 => absurd (h1.symm.trans h2) (by simp)⟩
  | p :: ps, wt, work, h, hp => by
    rw [List.foldl_cons]
    have hpn := hp p (by simp)
    by_cases hc : wt.getD p true = true
    · have e : wait1 (wt, work) p = (wt, work) := by unfold wait1; exact if_pos hc
      rw [e]
      obtain ⟨i1, i2, i3, ext, i4, i5, i6, i7⟩ := wait_fold ps wt work h (fun q hq => hp q (by simp [hq]))
      refine ⟨i1, i2, fun q hq => ?_, ext, i4, by simp; omega, i6, i7⟩
      rcases List.mem_cons.1 hq with rfl | hq
      · exact i2 _ hc
      · exact i3 q hq
    · have e : wait1 (wt, work) p = (wt.set p true, work ++ [p]) := by unfold wait1; exact if_neg hc
      rw [e]
      obtain ⟨i1, i2, i3, ext, i4, i5, i6, i7⟩ := wait_fold ps (wt.set p true) (work ++ [p]) (by simp [h]) (fun q hq => hp q (by simp [hq]))
      have hset : ∀ y, (wt.set p true).getD y true = if p = y then true else wt.getD y true := fun y => getD_setL _ _ _ _ _ (by rw [h]; exact hpn)
      refine ⟨i1, fun y hy => i2 y (by rw [hset]; split <;> simp_all), fun q hq => ?_, p :: ext, by rw [i4]; simp, by simp; omega, fun y hy => ?_, fun y h1 h2 => ?_⟩
      · rcases List.mem_cons.1 hq with rfl | hq
        · exact i2 _ (by rw [hset, if_pos rfl])
        · exact i3 q hq
      · rcases List.mem_cons.1 hy with rfl | hy
        · exact hpn
        · exact i6 y hy
      · by_cases e2 : p = y
        · subst e2; simp
        · exact List.mem_cons_of_mem _ (i7 y (by rw [hset, if_neg e2]; exact h1) h2)
def unset (s : Nat) (row : List Nat) : Nat := (List.range (64 * s)).countP fun q => !hasW row q
theorem unset_le (s : Nat) (row : List Nat) : unset s row ≤ 64 * s := by
  have := List.countP_le_length (p := fun q => !hasW row q) (l := List.range (64 * s))
  simpa [unset] using this
theorem countP_le_of {α : Type} {p p' : α → Bool} : ∀ {l : List α}, (∀ q ∈ l, p' q = true → p q = true) → l.countP p' ≤ l.countP p
  | [], _ => by simp
  | x :: l, h => by
    have ih := countP_le_of (l := l) fun q hq => h q (by simp [hq])
    rw [List.countP_cons, List.countP_cons]
    cases hx : p' x with
    | false => simp; split <;> omega
    | true => simp [h x (by simp) hx]; omega
theorem countP_lt_of {α : Type} {p p' : α → Bool} : ∀ {l : List α}, (∀ q ∈ l, p' q = true → p q = true) → (∃ q ∈ l, p q = true ∧ p' q = false) → l.countP p' < l.countP p
  | [], _, h => by obtain ⟨q, h, _⟩ := h; cases h
  | x :: l, h, hx => by
    obtain ⟨q, hq, h1, h2⟩ := hx
    rw [List.countP_cons, List.countP_cons]
    rcases List.mem_cons.1 hq with rfl | hq
    · have := countP_le_of (l := l) fun q hq => h q (by simp [hq])
      simp [h1, h2]; omega
    · have ih := countP_lt_of (l := l) (fun q hq => h q (by simp [hq])) ⟨q, hq, h1, h2⟩
      cases hx : p' x with
      | false => simp; split <;> omega
      | true => simp [h x (by simp) hx]; omega
theorem unset_lt {s : Nat} {a b : List Nat} (h : ∀ q, hasW a q = true → hasW b q = true) (hx : ∃ q, q < 64 * s ∧ hasW b q = true ∧ hasW a q = false) : unset s b < unset s a := by
  obtain ⟨q, h1, h2, h3⟩ := hx
  refine countP_lt_of (fun q _ hq => ?_) ⟨q, List.mem_range.2 h1, by simp [h3], by simp [h2]⟩
  cases hc : hasW a q with
  | false => rfl
  | true => rw [h q hc] at hq; cases hq
def pot (G : Gr) (FF : Nat → List Nat) (L : List (List Nat)) : Nat → Nat
  | 0 => 0
  | m + 1 => pot G FF L m + unset G.s (L.getD m []) * (FF m).length
theorem pot_eq {G : Gr} {FF : Nat → List Nat} {L L' : List (List Nat)} : ∀ (m : Nat), (∀ y, y < m → L'.getD y [] = L.getD y []) → pot G FF L' m = pot G FF L m
  | 0, _ => rfl
  | m + 1, h => by rw [pot, pot, pot_eq m (fun y hy => h y (by omega)), h m (by omega)]
theorem pot_less {G : Gr} {FF : Nat → List Nat} {L L' : List (List Nat)} {x : Nat} : ∀ (m : Nat), x < m → (∀ y, y ≠ x → L'.getD y [] = L.getD y []) → unset G.s (L'.getD x []) < unset G.s (L.getD x []) → pot G FF L' m + (FF x).length ≤ pot G FF L m
  | m + 1, hx, h, hu => by
    rw [pot, pot]
    by_cases e : x = m
    · subst e
      rw [pot_eq x (fun y hy => h y (by omega))]
      have : (unset G.s (L'.getD x []) + 1) * (FF x).length ≤ unset G.s (L.getD x []) * (FF x).length := Nat.mul_le_mul_right _ hu
      rw [Nat.add_mul, Nat.one_mul] at this
      omega
    · rw [h m (fun e' => e e'.symm)]
      have := pot_less (G := G) (FF := FF) m (by omega) h hu
      omega
def lens (FF : Nat → List Nat) : Nat → Nat
  | 0 => 0
  | m + 1 => lens FF m + (FF m).length
theorem pot_le {G : Gr} {FF : Nat → List Nat} {L : List (List Nat)} : ∀ (m : Nat), pot G FF L m ≤ 64 * G.s * lens FF m
  | 0 => by simp [pot]
  | m + 1 => by
    rw [pot, lens, Nat.mul_add]
    have := pot_le (G := G) (FF := FF) (L := L) m
    have := Nat.mul_le_mul_right (FF m).length (unset_le G.s (L.getD m []))
    omega
/-- What holds between two rounds of the work list. -/
structure Inv (G : Gr) (FF : Nat → List Nat) (C : Nat) (L : List (List Nat)) (wt : List Bool) (work : List Nat) (k : Nat) : Prop where
  ok : OkL G L
  sound : ∀ y, y < G.n → ∀ q, hasW (L.getD y []) q = true → Lv G y q
  reads : ∀ y, y < G.n → ∀ r ∈ G.reads y, hasW (L.getD y []) r = true
  wlen : wt.length = G.n
  work_lt : ∀ y ∈ work, y < G.n
  closed : ∀ y, y < G.n → wt.getD y true = false → ∀ w ∈ G.ways y, ∀ q, q ∉ w.2 → hasW (L.getD w.1 []) q = true → hasW (L.getD y []) q = true
  wait : ∀ y, y < G.n → wt.getD y true = true → ∃ j, k ≤ j ∧ j < work.length ∧ work.getD j 0 = y
  bound : work.length + pot G FF L G.n ≤ C
  kle : k ≤ work.length
structure FromOk (G : Gr) (FF : Nat → List Nat) : Prop where
  mem : ∀ y, y < G.n → ∀ w ∈ G.ways y, y ∈ FF w.1
  lt : ∀ x, x < G.n → ∀ y ∈ FF x, y < G.n
def lookD (G : Gr) (FF : Nat → List Nat) (L : List (List Nat)) (wt : List Bool) (work : List Nat) (x : Nat) : List (List Nat) × List Bool × List Nat :=
  let r := (G.ways x).foldl (look1 x) (L, false)
  if r.2 then (r.1, (FF x).foldl wait1 (wt.set x false, work)) else (r.1, wt.set x false, work)
theorem Inv.step {G : Gr} (hG : G.Ok) {FF : Nat → List Nat} (hF : FromOk G FF) {C : Nat} {L : List (List Nat)} {wt : List Bool} {work : List Nat} {k : Nat} (h : Inv G FF C L wt work k) (hk : k < work.length) {x : Nat} (hx : work.getD k 0 = x) :
    Inv G FF C (lookD G FF L wt work x).1 (lookD G FF L wt work x).2.1 (lookD G FF L wt work x).2.2 (k + 1) := by
  have hxn : x < G.n := h.work_lt x (by rw [← hx, List.getD_eq_getElem?_getD, List.getElem?_eq_getElem hk]; simp)
  obtain ⟨i1, i2, i3, i4, i5, i6⟩ := look_fold hxn (G.ways x) L false h.ok (hG.to_lt x hxn) (hG.ws_lt x hxn)
  have i7 := look_sound hG hxn (G.ways x) L false h.ok (fun _ h => h) h.sound
  obtain ⟨⟨L', m⟩, hr⟩ : ∃ r, (G.ways x).foldl (look1 x) (L, false) = r := ⟨_, rfl⟩
  rw [hr] at i1 i2 i3 i4 i5 i6 i7
  simp only at i1 i2 i3 i4 i5 i6 i7
  have hmono : ∀ y, ∀ q, hasW (L.getD y []) q = true → hasW (L'.getD y []) q = true := fun y q hq => by
    by_cases e : y = x
    · subst e; exact i3 q hq
    · rw [i2 y e]; exact hq
  have hset : ∀ y, (wt.set x false).getD y true = if x = y then false else wt.getD y true := fun y => getD_setL _ _ _ _ _ (by rw [h.wlen]; exact hxn)
  have hself : ∀ w ∈ G.ways x, ∀ q, q ∉ w.2 → hasW (L'.getD w.1 []) q = true → hasW (L'.getD x []) q = true := fun w hw q hq hh => by
    by_cases e : w.1 = x
    · rw [e] at hh; exact hh
    · rw [i2 _ e] at hh; exact i4 w hw q hq hh
  unfold lookD
  rw [hr]
  cases m with
  | false =>
    obtain ⟨_, rfl⟩ := i6 rfl
    simp only [Bool.false_eq_true, if_false]
    refine ⟨h.ok, h.sound, h.reads, by simp [h.wlen], h.work_lt, fun y hy hw => ?_, fun y hy hw => ?_, h.bound, hk⟩
    · rw [hset] at hw
      split at hw
      · rename_i e; subst e; exact hself
      · exact h.closed y hy hw
    · rw [hset] at hw
      split at hw
      · cases hw
      · rename_i e
        obtain ⟨j, j1, j2, j3⟩ := h.wait y hy hw
        refine ⟨j, ?_, j2, j3⟩
        by_cases ej : j = k
        · subst ej; exact absurd (hx.symm.trans j3) e
        · omega
  | true =>
    simp only [if_true]
    obtain ⟨w1, w2, w3, ext, w4, w5, w6, w7⟩ := wait_fold (n := G.n) (FF x) (wt.set x false) work (by simp [h.wlen]) (hF.lt x hxn)
    refine ⟨i1, i7, fun y hy r hr => hmono y r (h.reads y hy r hr), w1, fun y hy => ?_, fun y hy hw => ?_, fun y hy hw => ?_, ?_, ?_⟩
    · rw [w4] at hy
      rcases List.mem_append.1 hy with hy | hy
      · exact h.work_lt y hy
      · exact w6 y hy
    · have hw0 : (wt.set x false).getD y true = false := by
        cases hc : (wt.set x false).getD y true with
        | false => rfl
        | true => rw [w2 y hc] at hw; cases hw
      by_cases e : x = y
      · subst e; exact hself
      · rw [hset, if_neg e] at hw0
        intro w hww q hq hh
        by_cases e2 : w.1 = x
        · have := w3 y (e2 ▸ hF.mem y hy w hww)
          rw [this] at hw; cases hw
        · rw [i2 _ e2] at hh
          rw [i2 y (fun e' => e e'.symm)]
          exact h.closed y hy hw0 w hww q hq hh
    · rw [w4]
      cases hc : (wt.set x false).getD y true with
      | false =>
        obtain ⟨j, hj, hje⟩ := List.getElem_of_mem (w7 y hc hw)
        refine ⟨work.length + j, by omega, by simp; omega, ?_⟩
        rw [List.getD_eq_getElem?_getD, List.getElem?_append_right (by omega), show work.length + j - work.length = j by omega, List.getElem?_eq_getElem hj, hje]
        rfl
      | true =>
        rw [hset] at hc
        split at hc
        · cases hc
        · rename_i e
          obtain ⟨j, j1, j2, j3⟩ := h.wait y hy hc
          refine ⟨j, ?_, by simp; omega, ?_⟩
          · by_cases ej : j = k
            · subst ej; exact absurd (hx.symm.trans j3) e
            · omega
          · rw [← j3, List.getD_eq_getElem?_getD, List.getD_eq_getElem?_getD, List.getElem?_append_left j2]
    · have hu : unset G.s (L'.getD x []) < unset G.s (L.getD x []) := by
        refine unset_lt (fun q hq => i3 q hq) ?_
        rcases i5 rfl with h | h
        · cases h
        · exact h
      have := pot_less (G := G) (FF := FF) G.n hxn i2 hu
      have := h.bound
      rw [w4]
      simp only [List.length_append]
      omega
    · rw [w4]; simp; omega
/-- Where nothing waits any more, the rows say what is live. -/
theorem Inv.done {G : Gr} {FF : Nat → List Nat} {C : Nat} {L : List (List Nat)} {wt : List Bool} {work : List Nat} {k : Nat} (h : Inv G FF C L wt work k) (hG : G.Ok) (hk : work.length ≤ k) :
    OkL G L ∧ ∀ y, y < G.n → ∀ q, hasW (L.getD y []) q = true ↔ Lv G y q := by
  refine ⟨h.ok, fun y hy q => ⟨h.sound y hy q, fun hl => ?_⟩⟩
  induction hl with
  | read hr => exact h.reads _ hy _ hr
  | way hw hn _ ih =>
    have hw0 : ∀ z, z < G.n → wt.getD z true = false := fun z hz => by
      cases hc : wt.getD z true with
      | false => rfl
      | true => obtain ⟨j, j1, j2, _⟩ := h.wait _ hz hc; omega
    exact h.closed _ hy (hw0 _ hy) _ hw _ hn (ih (hG.to_lt _ hy _ hw))
end Go.Proofs.YtnniohimbmnapaaDoor
