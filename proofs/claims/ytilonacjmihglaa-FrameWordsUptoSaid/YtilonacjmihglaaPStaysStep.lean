/- Alloc and Set of a memory in form, as one step of ArenaStays. -/
import Derived.Test.YtilonacjmihglaaPPure14
import Derived.Test.YtilonacjmihglaaPSet
import Derived.Test.YtilonacjmihglaaPLawObjects
namespace Go.Proofs.Ytilonacjmihglaa
open Go.ChangeShapes Go.WideShapes Go.ChangeAt Go.RowKit
set_option linter.unusedVariables false
set_option linter.unusedSimpArgs false
/-- The memory of the loop: in block B the struct, in block g its words. -/
structure SS (W : World) (B g n : Nat) (ws : List Int) (top : Nat) (l : List Nat) (wr : World) : Prop where
  form : Form ws top l
  fit : Fit ws
  len : ws.length = n
  ma : MA wr B g n n top (fun i => ws.getD i 0)
  below : Below W.heap.size W wr
  hB : W.heap.size ≤ B
  hg : W.heap.size ≤ g
  ltB : B < wr.heap.size
theorem SS.keep {W wr w1 : World} {B g n top : Nat} {ws : List Int} {l : List Nat} (h : SS W B g n ws top l wr) (hb : Below wr.heap.size wr w1) : SS W B g n ws top l w1 := by
  have hg := h.ma.row.lt
  refine ⟨h.form, h.fit, h.len, ⟨below_cell hb h.ma.box0, below_cell hb h.ma.box1, ?_, h.ma.row.block (hb.block _ hg), h.ma.le, h.ma.max, h.ma.ne⟩, h.below.trans (hb.mono h.below.size), h.hB, h.hg, Nat.lt_of_lt_of_le h.ltB hb.size⟩
  exact (World.frozen?_of_block (a := ⟨B, 1, none⟩) (hb.block B h.ltB)).trans h.ma.fr
theorem SS.rd {W wr : World} {B g n top : Nat} {ws : List Int} {l : List Nat} (h : SS W B g n ws top l wr) : Rd wr (.slice (some ⟨g, 0, none⟩) n n) ws := by
  refine .inr ⟨g, 0, n, by rw [h.len], by rw [h.len]; exact Nat.le_refl _, by rw [h.len]; exact h.ma.max, fun i hi => ?_⟩
  rw [Nat.zero_add]
  exact h.ma.row.cell h.ma.le (by rw [h.len] at hi; exact hi)
structure Keeps (B g : Nat) (w w' : World) : Prop where
  size : w.heap.size ≤ w'.heap.size
  block : ∀ q, q < w.heap.size → q ≠ B → q ≠ g → w'.heap[q]? = w.heap[q]?
theorem Keeps.of {B g : Nat} {w w' : World} (h : Below w.heap.size w w') : Keeps B g w w' := ⟨h.size, fun q hq _ _ => h.block q hq⟩
def StepPost (W : World) (B g n : Nat) (ws : List Int) (top : Nat) (l : List Nat) (w : World) (er : Int) (w' : World) : Prop :=
  0 ≤ er ∧ er ≤ 9 ∧ ∃ ws' top' ext, (er ≠ 0 → ws' = ws ∧ top' = top) ∧ top ≤ top' ∧ SS W B g n ws' top' (l ++ ext) w' ∧ Keeps B g w w'
theorem StepPost.same {W w w' : World} {B g n top : Nat} {ws : List Int} {l : List Nat} {er : Int} (h : SS W B g n ws top l w) (h0 : 0 ≤ er ∧ er ≤ 9) (hb : Below w.heap.size w w') : StepPost W B g n ws top l w er w' :=
  ⟨h0.1, h0.2, ws, top, [], fun _ => ⟨rfl, rfl⟩, Nat.le_refl _, by rw [List.append_nil]; exact h.keep hb, Keeps.of hb⟩
theorem drewN_below (w : World) (q : Nat) : Below w.heap.size w (w.drewN q) := below_drewN (Below.refl _ _) q
theorem Row.ext {w : World} {g n c : Nat} {F G : Nat → Int} (h : Row w g n c F) (e : ∀ i, i < n → F i = G i) : Row w g n c G := by
  obtain ⟨f, h1, h2⟩ := h
  exact ⟨f, h1, fun i hi => by rw [h2 i hi, e i hi]⟩
theorem fit_allocL {ws : List Int} {a T M : Nat} {hd : Int} (hf : Fit ws) (h : a + 2 + M ≤ ws.length) (h0 : 0 ≤ hd ∧ hd ≤ 18446744073709551615) : Fit (allocL ws a hd T M) := by
  intro i
  rw [getD_allocL ws a hd T M i h]
  unfold fillTo
  split
  · exact h0
  · split
    · omega
    · split
      · split <;> omega
      · exact hf.at i
theorem alloc_ss {W w : World} {B g n top : Nat} {ws : List Int} {l : List Nat} (h : SS W B g n ws top l w) (k t r : Int) :
    Calls Try.prog 25 #[.pointer (some ⟨B, 0, none⟩), .int .i64 k, .int .i64 t, .int .i64 r] w fun e w' => ∃ a er, e = .returned (.tuple #[.int .i64 a, .int .i64 er]) ∧ StepPost W B g n ws top l w er w' := by
  have hm := h.form.most
  have hl := h.len
  have hle := h.form.le
  rcases err_cases n top k t r with ⟨h0, ⟨b1, b2, b3, b4, b5, b6, b7, b8⟩, s1, s2⟩ | h0 | h0
  · obtain ⟨T, rfl⟩ := Int.eq_ofNat_of_zero_le b5
    obtain ⟨R, rfl⟩ := Int.eq_ofNat_of_zero_le b7
    refine (alloc_good B g n n top _ k T R w h.ma ⟨b1, b2, b3, b4, b5, b6, b7, b8⟩ ⟨s1, s2⟩).mono ?_
    rintro e w' ⟨rfl, hA⟩
    have hform := h.form.alloc k T R ⟨b3, b4⟩ ⟨by omega, by omega⟩
    have hff := fit_allocL (T := T) (M := T + R) (hd := k + (T : Int) * 256 + (2 + (T : Int) + (R : Int)) * 4294967296) (a := top) h.fit (by omega) (by omega)
    rw [Int.toNat_natCast, Int.toNat_natCast, show ((T : Int) + (R : Int)).toNat = T + R by omega] at hA
    refine ⟨_, 0, rfl, by omega, by omega, _, top + (2 + T + R), [top], fun e => absurd rfl e, by omega, ⟨hform, hff, by simp [allocL, hl], ⟨hA.box0, ?_, hA.fr, hA.row.ext fun i hi => ?_, hA.le, h.ma.max, hA.ne⟩, hA.below h.below h.hB h.hg, h.hB, h.hg, Nat.lt_of_lt_of_le h.ltB hA.but.size⟩, ⟨hA.but.size, hA.but.block⟩⟩
    · rw [hA.box1, show ((top + (2 + T + R) : Nat) : Int) = (top : Int) + (2 + (T : Int) + (R : Int)) by omega]
    · rw [getD_allocL _ _ _ _ _ _ (by omega)]
  · refine (alloc_bad0 B n n _ top k t r w h.ma.box0 h.ma.box1 h0 (by omega)).mono ?_
    rintro e w' ⟨rfl, q, rfl⟩
    exact ⟨_, 1, rfl, StepPost.same h (by omega) (drewN_below _ _)⟩
  · obtain ⟨h1, h2⟩ := err_five h0
    refine (alloc_full B g n n top _ k t r w h.ma h1 h2).mono ?_
    rintro e w' ⟨rfl, q, rfl⟩
    exact ⟨_, 5, rfl, StepPost.same h (by omega) (drewN_below _ _)⟩
theorem set_ss {W w : World} {B g n top : Nat} {ws : List Int} {l : List Nat} (h : SS W B g n ws top l w) (a i x : Int) (hx : (Lit.int .u64 x).wf = true) (hi : -9223372036854775808 ≤ i ∧ i ≤ 9223372036854775807)
    (ha : (∃ b, b ∈ l ∧ a = (b : Nat)) ∨ there (ws.take top) a = false) (hw : kindOf x = 3 ∨ rightW l x = true) :
    Calls Try.prog 27 #[.pointer (some ⟨B, 0, none⟩), .int .i64 a, .int .i64 i, .int .u64 x] w fun e w' => ∃ er, e = .returned (.int .i64 er) ∧ StepPost W B g n ws top l w er w' := by
  have hm := h.form.most
  have hl := h.len
  have hle := h.form.le
  have hrd := h.rd.take top (by omega)
  have hft := h.fit.take top
  have hfz : ∀ q, w.frozen? ⟨g, q, none⟩ = false := fun q => h.ma.row.frozen q
  have hlt := h.ma.row.lt
  by_cases hth : there (ws.take top) a = true
  · by_cases hyes : 0 ≤ i ∧ i < hS (headAt (ws.take top) a) - 2
    · by_cases hk : i < hT (headAt (ws.take top) a) ∧ kindOf x = 3
      · refine (set_type B g 0 n n top _ a i x w hrd hft hfz hlt h.ltB (Nat.le_refl _) h.ma.max hx hi h.ma.box0 h.ma.box1 (by omega) hth hyes hk.1 hk.2).mono ?_
        rintro e w' ⟨rfl, hb⟩
        exact ⟨9, rfl, StepPost.same h (by omega) hb⟩
      · refine (set_good B g 0 n n top _ a i x w hrd hft hfz hlt h.ltB (Nat.le_refl _) h.ma.max hx hi h.ma.box0 h.ma.box1 (by omega) hth hyes hk).mono ?_
        rintro e w' ⟨rfl, w1, hb, rfl⟩
        rcases ha with ⟨b, hbl, rfl⟩ | ha
        · obtain ⟨I, rfl⟩ := Int.eq_ofNat_of_zero_le hyes.1
          rw [Int.toNat_natCast, Int.toNat_natCast, Nat.zero_add]
          have hok := scan_mem_ok h.form.scan b hbl
          have hsz := okAt_sz hok
          have hlen := h.form.len
          have hq : b + 2 + I < b + sz (ws.take top) b := by omega
          have hT0 := hT_lo (headAt (ws.take top) b)
          have hform := h.form.set hbl I hq x (fun hI => hw.resolve_left (fun e => hk ⟨by omega, e⟩))
          have hK := h.keep hb
          have hA := (AL.start hK.ma 0).set (b + 2 + I) x
          refine ⟨0, rfl, by omega, by omega, _, top, [], fun e => absurd rfl e, Nat.le_refl _, ⟨by rw [List.append_nil]; exact hform, fun j => ?_, by rw [List.length_set]; exact hl, ⟨hA.box0, hA.box1, hA.fr, hA.row.ext fun j hj => ?_, hA.le, h.ma.max, hA.ne⟩, hA.below hK.below h.hB h.hg, h.hB, h.hg, Nat.lt_of_lt_of_le hK.ltB hA.but.size⟩, ⟨Nat.le_trans hb.size hA.but.size, fun q hq h1 h2 => (hA.but.block q (Nat.lt_of_lt_of_le hq hb.size) h1 h2).trans (hb.block q hq)⟩⟩
          · rw [getD_set]
            split
            · exact wfu hx
            · exact h.fit.at j
          · rw [getD_set]
            unfold upd
            by_cases e : j = b + 2 + I
            · rw [if_pos e, if_pos ⟨e, by omega⟩]
            · rw [if_neg e, if_neg (fun g => e g.1)]
        · rw [ha] at hth; cases hth
    · refine (set_has B g 0 n n top _ a i x w hrd hft hfz hlt h.ltB (Nat.le_refl _) h.ma.max hx hi h.ma.box0 h.ma.box1 (by omega) hth hyes).mono ?_
      rintro e w' ⟨rfl, hb⟩
      exact ⟨1, rfl, StepPost.same h (by omega) hb⟩
  · refine (set_bad B g 0 n n top _ a i x w hrd hft hfz hlt h.ltB (Nat.le_refl _) h.ma.max hx hi h.ma.box0 h.ma.box1 (by omega) (by simpa using hth)).mono ?_
    rintro e w' ⟨rfl, hb⟩
    exact ⟨1, rfl, StepPost.same h (by omega) hb⟩
end Go.Proofs.Ytilonacjmihglaa
