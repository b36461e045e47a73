/- Alloc where it succeeds: the new object's words are laid, the top goes up, nothing else changes. -/
import Derived.Test.YtfhjpgbnojdlkaaAllocFull
import Derived.BigRegion
namespace Go.Proofs.Ytfhjpgbnojdlkaa
open Go.ChangeShapes Go.WideShapes Go.ChangeAt Go.RowKit
set_option linter.unusedVariables false
set_option linter.unusedSimpArgs false
/-- One word of the memory is another one. -/
def upd (F : Nat → Int) (q : Nat) (x : Int) : Nat → Int := fun j => if j = q then x else F j
structure AL (w : World) (B g n c : Nat) (top : Int) (G : Nat → Int) (wr : World) : Prop where
  box0 : wr.cell? ⟨B, 0, none⟩ = some (.slice (some ⟨g, 0, none⟩) n c)
  box1 : wr.cell? ⟨B, 1, none⟩ = some (.int .i64 top)
  fr : wr.frozen? ⟨B, 1, none⟩ = false
  row : Row wr g n c G
  le : n ≤ c
  but : But2 B g w wr
  ne : B ≠ g
theorem AL.start {w : World} {B g n c : Nat} {top : Int} {F : Nat → Int} (h : MA w B g n c top F) (q : Nat) : AL w B g n c top F (w.drewN q) :=
  ⟨h.box0, h.box1, h.fr, h.row, h.le, ⟨rfl, rfl, rfl, Nat.le_refl _, fun _ _ _ _ => rfl⟩, h.ne⟩
theorem AL.set {w : World} {B g n c : Nat} {top : Int} {G : Nat → Int} {wr : World} (h : AL w B g n c top G wr) (q : Nat) (x : Int) : AL w B g n c top (upd G q x) (wr.setCell ⟨g, q, none⟩ (.int .u64 x)) := by
  refine ⟨?_, ?_, ?_, ?_, h.le, ?_, h.ne⟩
  · rw [← h.box0]; exact World.cell?_of_block (Below.heap_setCell _ _ _ _ h.ne)
  · rw [← h.box1]; exact World.cell?_of_block (Below.heap_setCell _ _ _ _ h.ne)
  · rw [← h.fr]; exact World.frozen?_of_block (Below.heap_setCell _ _ _ _ h.ne)
  · obtain ⟨f, h1, h2⟩ := h.row
    refine ⟨_, h1.set q _, fun i hi => ?_⟩
    unfold upd
    by_cases e : i = q
    · simp only [if_pos e]
    · simp only [if_neg e]; exact h2 i hi
  · exact ⟨h.but.os, h.but.tape, h.but.output, by have := h.but.size; simpa [World.setCell] using this, fun k hk h1 h2 => by
      rw [Below.heap_setCell _ _ _ _ (by simpa using h2)]; exact h.but.block k hk h1 h2⟩
theorem AL.setTop {w : World} {B g n c : Nat} {top : Int} {G : Nat → Int} {wr : World} (h : AL w B g n c top G wr) (x : Int) : AL w B g n c x G (wr.setCell ⟨B, 1, none⟩ (.int .i64 x)) := by
  refine ⟨?_, World.cell?_setCell_same _ _ _ h.box1, ?_, h.row.block (Below.heap_setCell _ _ _ _ (fun e => h.ne e.symm)), h.le, ?_, h.ne⟩
  · rw [← h.box0]; exact World.cell?_setCell_other _ _ _ _ (by simp)
  · rw [← h.fr]; exact World.frozen?_setCell _ _ _ _
  · exact ⟨h.but.os, h.but.tape, h.but.output, by have := h.but.size; simpa [World.setCell] using this, fun k hk h1 h2 => by
      rw [Below.heap_setCell _ _ _ _ (by simpa using h1)]; exact h.but.block k hk h1 h2⟩
theorem AL.drewN {w : World} {B g n c : Nat} {top : Int} {G : Nat → Int} {wr : World} (h : AL w B g n c top G wr) (q : Nat) : AL w B g n c top G (wr.drewN q) :=
  ⟨h.box0, h.box1, h.fr, h.row, h.le, ⟨h.but.os, h.but.tape, h.but.output, h.but.size, h.but.block⟩, h.ne⟩
theorem AL.same {w : World} {B g n c : Nat} {top : Int} {G G' : Nat → Int} {wr : World} (h : AL w B g n c top G wr) (e : ∀ i, G i = G' i) : AL w B g n c top G' wr := by
  have : G = G' := funext e
  exact this ▸ h
def fillTo (F : Nat → Int) (a : Nat) (hd : Int) (T p : Nat) : Nat → Int := fun j => if j = a then hd else if j = a + 1 then 0 else if a + 2 ≤ j ∧ j < a + 2 + p then (if j < a + 2 + T then 2 else 0) else F j
theorem fill_zero (F : Nat → Int) (a : Nat) (hd : Int) (T : Nat) : ∀ j, upd (upd F a hd) (a + 1) 0 j = fillTo F a hd T 0 j := by
  intro j; unfold upd fillTo
  by_cases h1 : j = a + 1
  · subst h1; rw [if_pos rfl, if_neg (by omega), if_pos rfl]
  · rw [if_neg h1]
    by_cases h2 : j = a
    · rw [if_pos h2, if_pos h2]
    · rw [if_neg h2, if_neg h2, if_neg h1, if_neg (by omega)]
theorem fill_step (F : Nat → Int) (a : Nat) (hd : Int) (T p : Nat) (x : Int) (hx : x = if p < T then 2 else 0) : ∀ j, upd (fillTo F a hd T p) (a + 2 + p) x j = fillTo F a hd T (p + 1) j := by
  intro j; unfold upd fillTo
  by_cases h : j = a + 2 + p
  · subst h
    rw [if_pos rfl, if_neg (by omega), if_neg (by omega), if_pos (by omega), hx]
    by_cases hp : p < T
    · rw [if_pos hp, if_pos (by omega)]
    · rw [if_neg hp, if_neg (by omega)]
  · rw [if_neg h]
    by_cases h1 : j = a
    · rw [if_pos h1, if_pos h1]
    · rw [if_neg h1, if_neg h1]
      by_cases h2 : j = a + 1
      · rw [if_pos h2, if_pos h2]
      · rw [if_neg h2, if_neg h2]
        by_cases h3 : a + 2 ≤ j ∧ j < a + 2 + p
        · rw [if_pos h3, if_pos (show a + 2 ≤ j ∧ j < a + 2 + (p + 1) by omega)]
        · rw [if_neg h3, if_neg (show ¬ (a + 2 ≤ j ∧ j < a + 2 + (p + 1)) by omega)]
theorem upd_upd (F : Nat → Int) (q : Nat) (x y : Int) : ∀ j, upd (upd F q x) q y j = upd F q y j := by
  intro j; unfold upd; split <;> rfl
theorem headOf (k t s : Int) (h1 : 0 ≤ k ∧ k ≤ 255) (h2 : 0 ≤ t ∧ t ≤ 16777215) (h3 : 0 ≤ s ∧ s ≤ 16777215) :
    bits BinOp.or IntKind.u64 (bits BinOp.or IntKind.u64 k (t * 256)) (s * 4294967296) = k + t * 256 + s * 4294967296 := by
  have wr : ∀ n : Int, 0 ≤ n → n < 2 ^ 64 → IntKind.u64.wrap n = n := fun n h₀ h₁ => by rw [u64w]; omega
  have comm : ∀ a b : Int, 0 ≤ a → a < 18446744073709551616 → 0 ≤ b → b < 18446744073709551616 → bits BinOp.or IntKind.u64 a b = bits BinOp.or IntKind.u64 b a := fun a b x1 x2 x3 x4 => by
    rw [u64_or a b x1 x2 x3 x4, u64_or b a x3 x4 x1 x2, Nat.or_comm]
  rw [comm k (t * 256) (by omega) (by omega) (by omega) (by omega)]
  rw [bits_join .u64 64 (by decide) wr 8 (t * 256) k (by omega) (by omega) (by omega) (by omega) (by omega) (by omega)]
  rw [comm (t * 256 + k) (s * 4294967296) (by omega) (by omega) (by omega) (by omega)]
  rw [bits_join .u64 64 (by decide) wr 32 (s * 4294967296) (t * 256 + k) (by omega) (by omega) (by omega) (by omega) (by omega) (by omega)]
  omega
set_option maxRecDepth 100000 in
set_option maxHeartbeats 1000000 in
theorem alloc_good (B g n c : Nat) (top : Int) (F : Nat → Int) (k t r : Int) (w : World) (h : MA w B g n c top F) (hb : 1 ≤ top ∧ top ≤ n ∧ 1 ≤ k ∧ k ≤ 255 ∧ 0 ≤ t ∧ t ≤ 1048576 ∧ 0 ≤ r ∧ r ≤ 1048576) (hs : 2 + t + r < 16777216 ∧ 2 + t + r ≤ n - top) :
    Calls Try.prog 67 #[.pointer (some ⟨B, 0, none⟩), .int .i64 k, .int .i64 t, .int .i64 r] w fun e w' => e = .returned (.tuple #[.int .i64 top, .int .i64 0]) ∧ AL w B g n c (top + (2 + t + r)) (fillTo F top.toNat (k + t * 256 + (2 + t + r) * 4294967296) t.toNat (t + r).toNat) w' := by
  obtain ⟨b1, b2, b3, b4, b5, b6, b7, b8⟩ := hb
  obtain ⟨s1, s2⟩ := hs
  obtain ⟨a, rfl⟩ := Int.eq_ofNat_of_zero_le (by omega : 0 ≤ top)
  obtain ⟨T, rfl⟩ := Int.eq_ofNat_of_zero_le b5
  obtain ⟨R, rfl⟩ := Int.eq_ofNat_of_zero_le b7
  have HF := Lib.hid (show fillTo F (a : Int).toNat (k + (T : Int) * 256 + (2 + (T : Int) + (R : Int)) * 4294967296) (T : Int).toNat ((T : Int) + (R : Int)).toNat = fillTo F a (k + (T : Int) * 256 + (2 + (T : Int) + (R : Int)) * 4294967296) T (T + R) by
    rw [Int.toNat_natCast, Int.toNat_natCast, show ((T : Int) + (R : Int)).toNat = T + R by omega])
  have HH := Lib.hid (headOf k T (2 + (T : Int) + (R : Int)) (by omega) (by omega) (by omega))
  have hS0 := Lib.hid (AL.start h)
  have h0 := h.box0
  have h1 := h.box1
  have d1 : decide ((a : Int) < 1) = false := by rw [decide_eq_false_iff_not]; omega
  have d2 : decide ((n : Int) < (a : Int)) = false := by rw [decide_eq_false_iff_not]; omega
  have d3 : decide (k < 1) = false := by rw [decide_eq_false_iff_not]; omega
  have d4 : decide ((255 : Int) < k) = false := by rw [decide_eq_false_iff_not]; omega
  have d5 : decide ((T : Int) < 0) = false := by rw [decide_eq_false_iff_not]; omega
  have d6 : decide ((1048576 : Int) < (T : Int)) = false := by rw [decide_eq_false_iff_not]; omega
  have d7 : decide ((R : Int) < 0) = false := by rw [decide_eq_false_iff_not]; omega
  have d8 : decide ((1048576 : Int) < (R : Int)) = false := by rw [decide_eq_false_iff_not]; omega
  have d2' : decide (n < a) = false := by rw [decide_eq_false_iff_not]; omega
  have hmx := h.max
  have hle := h.le
  have e1 : decide ((16777216 : Int) ≤ 2 + (T : Int) + (R : Int)) = false := by rw [decide_eq_false_iff_not]; omega
  have e2 : decide ((n : Int) - (a : Int) < 2 + (T : Int) + (R : Int)) = false := by rw [decide_eq_false_iff_not]; omega
  go_enter Try.func67, Try.ntmps67
  go_wp2_with fail
  go_quiet (fail)
  go_wp2_with fail
  go_quiet (fail)
  go_wp2_with fail
  refine (const_any 0 (by decide) _).mono ?_
  rintro e w1 ⟨rfl, rfl⟩
  have k1 : constW 0 = 2 := rfl
  have k2 : constE 0 = 0 := rfl
  rw [k1, k2]
  clear k1 k2
  have hr0 := h.row.cell h.le (i := a) (by omega)
  have hr1 := h.row.cell h.le (i := a + 1) (by omega)
  have hf0 := h.row.frozen a
  have hf1 := h.row.frozen (a + 1)
  obtain ⟨o2, ho2, hsl⟩ := sl_mid (P := Try.prog) 22 sliceU64 sizeU64 g 0 n c (a + 2) (T + R) (by omega)
  rw [show ((a + 2 : Nat) : Int) = (a : Int) + 2 by omega, show (a : Int) + 2 + ((T + R : Nat) : Int) = (a : Int) + (2 + (T : Int) + (R : Int)) by omega] at hsl
  go_wp2_with fail
  generalize hwa : World.setCell (World.setCell _ _ _) _ _ = wa
  have HA : Hid (AL w B g n c a (fillTo F a (k + (T : Int) * 256 + (2 + (T : Int) + (R : Int)) * 4294967296) T 0) wa) := by
    rw [← hwa, HH.out]
    exact (((hS0.out _).set a _).set (a + 1) 0).same (fill_zero F a _ T)
  clear hwa hr0 hr1 hf0 hf1 h0 h1 hsl
  go_loopw [124] (fun s wr => ∃ p : Nat, s = .int .i64 p ∧ p ≤ T + R ∧ AL w B g n c a (fillTo F a (k + (T : Int) * 256 + (2 + (T : Int) + (R : Int)) * 4294967296) T p) wr) (fun s _ => T + R - (intOf s).toNat)
  case atStart => exact ⟨0, by go_num, Nat.zero_le _, HA.out⟩
  case round =>
    obtain ⟨p, rfl, hp, hS⟩ := hrel
    by_cases hlt : p < T + R
    · obtain rfl : o2 = a + 2 := by rw [ho2 (by omega), Nat.zero_add]
      have hc1 := hS.row.cell hS.le (i := a + 2 + p) (by omega)
      have hf1 := hS.row.frozen (a + 2 + p)
      have hpi : (p : Int) < (T : Int) + (R : Int) := by omega
      by_cases hpT : p < T
      · have hN := Lib.hid (((hS.set (a + 2 + p) 0).set (a + 2 + p) 2).same (fun j => (upd_upd _ _ 0 2 j).trans (fill_step F a _ T p 2 (by rw [if_pos hpT]) j)))
        have hc2 := (hS.set (a + 2 + p) 0).row.cell hS.le (i := a + 2 + p) (by omega)
        have hf2 := (hS.set (a + 2 + p) 0).row.frozen (a + 2 + p)
        generalize fillTo F a (k + (T : Int) * 256 + (2 + (T : Int) + (R : Int)) * 4294967296) T p (a + 2 + p) = x0 at hc1
        generalize upd _ _ _ _ = x1 at hc2
        go_wp2_with fail
        go_roundw
        case rel => exact ⟨p + 1, by go_num, by omega, hN.out⟩
        case measure => simp [intOf]; omega
      · have hN := Lib.hid ((hS.set (a + 2 + p) 0).same (fill_step F a _ T p 0 (by rw [if_neg hpT])))
        generalize fillTo F a (k + (T : Int) * 256 + (2 + (T : Int) + (R : Int)) * 4294967296) T p (a + 2 + p) = x0 at hc1
        go_wp2_with fail
        go_roundw
        case rel => exact ⟨p + 1, by go_num, by omega, hN.out⟩
        case measure => simp [intOf]; omega
    · have hb1 := hS.box1
      have hb0 := hS.box0
      have hfr := hS.fr
      obtain rfl : p = T + R := by omega
      have hF := Lib.hid (hS.setTop ((a : Int) + (2 + (T : Int) + (R : Int))))
      go_wp2_with fail
      go_ret2
      exact ⟨rfl, by rw [HF.out]; exact hF.out⟩
end Go.Proofs.Ytfhjpgbnojdlkaa
