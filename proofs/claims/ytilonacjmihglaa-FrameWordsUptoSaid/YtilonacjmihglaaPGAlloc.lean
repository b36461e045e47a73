/- Alloc where it is refused with ErrArg: nothing changes. Alloc where it is refused with ErrFull: nothing changes. Alloc where it succeeds: the new object's words are laid, the top goes up, nothing else changes. The contract of the document's Alloc where it is refused: the memory comes back as it is. Both Allocs in one contract each: of any memory. -/
import Derived.Test.YtilonacjmihglaaPGCheck
import Derived.BigRegion
import Derived.Test.YtilonacjmihglaaPCopy
import Derived.Deep.DeepCutAuto
namespace Go.Proofs.Ytilonacjmihglaa
section
open Go.ChangeShapes Go.WideShapes Go.ChangeAt Go.RowKit
set_option linter.unusedVariables false
set_option linter.unusedSimpArgs false

/-- Block g is a row of c words, the first n as F says. -/
def Row (w : World) (g n c : Nat) (F : Nat → Int) : Prop := ∃ f : Nat → Value, w.rowIs g 29 c f ∧ ∀ i, i < n → f i = .int .u64 (F i)
theorem Row.cell {w : World} {g n c : Nat} {F : Nat → Int} (h : Row w g n c F) (hn : n ≤ c) {i : Nat} (hi : i < n) : w.cell? ⟨g, i, none⟩ = some (.int .u64 (F i)) := by
  obtain ⟨f, h1, h2⟩ := h
  rw [h1.cell (by omega), h2 i hi]
theorem Row.frozen {w : World} {g n c : Nat} {F : Nat → Int} (h : Row w g n c F) (i : Nat) : w.frozen? ⟨g, i, none⟩ = false := by
  obtain ⟨f, h1, h2⟩ := h
  exact h1.frozen i
theorem Row.lt {w : World} {g n c : Nat} {F : Nat → Int} (h : Row w g n c F) : g < w.heap.size := by
  obtain ⟨f, h1, h2⟩ := h
  exact h1.lt
theorem Row.block {w w' : World} {g n c : Nat} {F : Nat → Int} (h : Row w g n c F) (e : w'.heap[g]? = w.heap[g]?) : Row w' g n c F := by
  obtain ⟨f, h1, h2⟩ := h
  exact ⟨f, h1.of_block e, h2⟩
/-- A memory behind a pointer: the struct in block B, its words in block g. -/
structure MA (w : World) (B g n c : Nat) (top : Int) (F : Nat → Int) : Prop where
  box0 : w.cell? ⟨B, 0, none⟩ = some (.slice (some ⟨g, 0, none⟩) n c)
  box1 : w.cell? ⟨B, 1, none⟩ = some (.int .i64 top)
  fr : w.frozen? ⟨B, 1, none⟩ = false
  row : Row w g n c F
  le : n ≤ c
  max : n ≤ 17592186043904
  ne : B ≠ g
/-- All but two blocks are as they were. -/
structure But2 (B g : Nat) (w w' : World) : Prop where
  os : w'.os = w.os
  tape : w'.tape = w.tape
  output : w'.output = w.output
  size : w.heap.size ≤ w'.heap.size
  block : ∀ k, k < w.heap.size → k ≠ B → k ≠ g → w'.heap[k]? = w.heap[k]?
def allocErr (n : Nat) (top k t r : Int) : Int :=
  if 1 ≤ top ∧ top ≤ n ∧ 1 ≤ k ∧ k ≤ 255 ∧ 0 ≤ t ∧ t ≤ 1048576 ∧ 0 ≤ r ∧ r ≤ 1048576 then (if 2 + t + r < 16777216 ∧ 2 + t + r ≤ n - top then 0 else 5) else 1
set_option maxRecDepth 100000 in
theorem alloc_nil (k t r : Int) (w : World) :
    Calls Try.prog 25 #[.pointer none, .int .i64 k, .int .i64 t, .int .i64 r] w fun e w' => e = .returned (.tuple #[.int .i64 0, .int .i64 1]) ∧ ∃ q, w' = w.drewN q := by
  go_enter Try.func25, Try.ntmps25
  go_wp2_with fail
  go_quiet (fail)
  go_wp2_with fail
  go_ret2
  exact ⟨rfl, _, rfl⟩
set_option maxRecDepth 100000 in
set_option maxHeartbeats 1000000 in
theorem alloc_bad0 (B n c : Nat) (p : Option Addr) (top : Int) (k t r : Int) (w : World) (h0 : w.cell? ⟨B, 0, none⟩ = some (.slice p n c)) (h1 : w.cell? ⟨B, 1, none⟩ = some (.int .i64 top)) (hb : allocErr n top k t r = 1) (hx : -9223372036854775808 ≤ top ∧ top ≤ 9223372036854775807) :
    Calls Try.prog 25 #[.pointer (some ⟨B, 0, none⟩), .int .i64 k, .int .i64 t, .int .i64 r] w fun e w' => e = .returned (.tuple #[.int .i64 0, .int .i64 1]) ∧ ∃ q, w' = w.drewN q := by
  have hb' : ¬ (1 ≤ top ∧ top ≤ n ∧ 1 ≤ k ∧ k ≤ 255 ∧ 0 ≤ t ∧ t ≤ 1048576 ∧ 0 ≤ r ∧ r ≤ 1048576) := by
    intro g
    unfold allocErr at hb
    rw [if_pos g] at hb
    split at hb <;> omega
  clear hb
  by_cases a1 : top < 1
  · have d1 : decide (top < 1) = true := by rw [decide_eq_true_iff]; omega
    go_enter Try.func25, Try.ntmps25
    go_wp2_with fail
    go_quiet (fail)
    go_wp2_with fail
    go_ret2
    exact ⟨rfl, _, rfl⟩
  · by_cases a2 : (n : Int) < top
    · have d1 : decide (top < 1) = false := by rw [decide_eq_false_iff_not]; omega
      have d2 : decide ((n : Int) < top) = true := by rw [decide_eq_true_iff]; omega
      go_enter Try.func25, Try.ntmps25
      go_wp2_with fail
      go_quiet (fail)
      go_wp2_with fail
      go_ret2
      exact ⟨rfl, _, rfl⟩
    · by_cases a3 : k < 1
      · have d1 : decide (top < 1) = false := by rw [decide_eq_false_iff_not]; omega
        have d2 : decide ((n : Int) < top) = false := by rw [decide_eq_false_iff_not]; omega
        have d3 : decide (k < 1) = true := by rw [decide_eq_true_iff]; omega
        go_enter Try.func25, Try.ntmps25
        go_wp2_with fail
        go_quiet (fail)
        go_wp2_with fail
        go_ret2
        exact ⟨rfl, _, rfl⟩
      · by_cases a4 : 255 < k
        · have d1 : decide (top < 1) = false := by rw [decide_eq_false_iff_not]; omega
          have d2 : decide ((n : Int) < top) = false := by rw [decide_eq_false_iff_not]; omega
          have d3 : decide (k < 1) = false := by rw [decide_eq_false_iff_not]; omega
          have d4 : decide ((255 : Int) < k) = true := by rw [decide_eq_true_iff]; omega
          go_enter Try.func25, Try.ntmps25
          go_wp2_with fail
          go_quiet (fail)
          go_wp2_with fail
          go_ret2
          exact ⟨rfl, _, rfl⟩
        · by_cases a5 : t < 0
          · have d1 : decide (top < 1) = false := by rw [decide_eq_false_iff_not]; omega
            have d2 : decide ((n : Int) < top) = false := by rw [decide_eq_false_iff_not]; omega
            have d3 : decide (k < 1) = false := by rw [decide_eq_false_iff_not]; omega
            have d4 : decide ((255 : Int) < k) = false := by rw [decide_eq_false_iff_not]; omega
            have d5 : decide (t < 0) = true := by rw [decide_eq_true_iff]; omega
            go_enter Try.func25, Try.ntmps25
            go_wp2_with fail
            go_quiet (fail)
            go_wp2_with fail
            go_ret2
            exact ⟨rfl, _, rfl⟩
          · by_cases a6 : 1048576 < t
            · have d1 : decide (top < 1) = false := by rw [decide_eq_false_iff_not]; omega
              have d2 : decide ((n : Int) < top) = false := by rw [decide_eq_false_iff_not]; omega
              have d3 : decide (k < 1) = false := by rw [decide_eq_false_iff_not]; omega
              have d4 : decide ((255 : Int) < k) = false := by rw [decide_eq_false_iff_not]; omega
              have d5 : decide (t < 0) = false := by rw [decide_eq_false_iff_not]; omega
              have d6 : decide ((1048576 : Int) < t) = true := by rw [decide_eq_true_iff]; omega
              go_enter Try.func25, Try.ntmps25
              go_wp2_with fail
              go_quiet (fail)
              go_wp2_with fail
              go_ret2
              exact ⟨rfl, _, rfl⟩
            · by_cases a7 : r < 0
              · have d1 : decide (top < 1) = false := by rw [decide_eq_false_iff_not]; omega
                have d2 : decide ((n : Int) < top) = false := by rw [decide_eq_false_iff_not]; omega
                have d3 : decide (k < 1) = false := by rw [decide_eq_false_iff_not]; omega
                have d4 : decide ((255 : Int) < k) = false := by rw [decide_eq_false_iff_not]; omega
                have d5 : decide (t < 0) = false := by rw [decide_eq_false_iff_not]; omega
                have d6 : decide ((1048576 : Int) < t) = false := by rw [decide_eq_false_iff_not]; omega
                have d7 : decide (r < 0) = true := by rw [decide_eq_true_iff]; omega
                go_enter Try.func25, Try.ntmps25
                go_wp2_with fail
                go_quiet (fail)
                go_wp2_with fail
                go_ret2
                exact ⟨rfl, _, rfl⟩
              · have a8 : 1048576 < r := by omega
                have d1 : decide (top < 1) = false := by rw [decide_eq_false_iff_not]; omega
                have d2 : decide ((n : Int) < top) = false := by rw [decide_eq_false_iff_not]; omega
                have d3 : decide (k < 1) = false := by rw [decide_eq_false_iff_not]; omega
                have d4 : decide ((255 : Int) < k) = false := by rw [decide_eq_false_iff_not]; omega
                have d5 : decide (t < 0) = false := by rw [decide_eq_false_iff_not]; omega
                have d6 : decide ((1048576 : Int) < t) = false := by rw [decide_eq_false_iff_not]; omega
                have d7 : decide (r < 0) = false := by rw [decide_eq_false_iff_not]; omega
                have d8 : decide ((1048576 : Int) < r) = true := by rw [decide_eq_true_iff]; omega
                go_enter Try.func25, Try.ntmps25
                go_wp2_with fail
                go_quiet (fail)
                go_wp2_with fail
                go_ret2
                exact ⟨rfl, _, rfl⟩
theorem alloc_bad (B g n c : Nat) (top : Int) (F : Nat → Int) (k t r : Int) (w : World) (h : MA w B g n c top F) (hb : allocErr n top k t r = 1) (hx : -9223372036854775808 ≤ top ∧ top ≤ 9223372036854775807) :
    Calls Try.prog 25 #[.pointer (some ⟨B, 0, none⟩), .int .i64 k, .int .i64 t, .int .i64 r] w fun e w' => e = .returned (.tuple #[.int .i64 0, .int .i64 1]) ∧ ∃ q, w' = w.drewN q :=
  alloc_bad0 B n c _ top k t r w h.box0 h.box1 hb hx
end
section
open Go.ChangeShapes Go.WideShapes Go.ChangeAt Go.RowKit
set_option linter.unusedVariables false
set_option linter.unusedSimpArgs false
set_option maxRecDepth 100000 in
set_option maxHeartbeats 1000000 in
theorem alloc_full (B g n c : Nat) (top : Int) (F : Nat → Int) (k t r : Int) (w : World) (h : MA w B g n c top F) (hb : 1 ≤ top ∧ top ≤ n ∧ 1 ≤ k ∧ k ≤ 255 ∧ 0 ≤ t ∧ t ≤ 1048576 ∧ 0 ≤ r ∧ r ≤ 1048576) (hs : ¬ (2 + t + r < 16777216 ∧ 2 + t + r ≤ n - top)) :
    Calls Try.prog 25 #[.pointer (some ⟨B, 0, none⟩), .int .i64 k, .int .i64 t, .int .i64 r] w fun e w' => e = .returned (.tuple #[.int .i64 0, .int .i64 5]) ∧ ∃ q, w' = w.drewN q := by
  obtain ⟨b1, b2, b3, b4, b5, b6, b7, b8⟩ := hb
  obtain ⟨a, rfl⟩ := Int.eq_ofNat_of_zero_le (by omega : 0 ≤ top)
  have h0 := h.box0
  have h1 := h.box1
  have d1 : decide ((a : Int) < 1) = false := by rw [decide_eq_false_iff_not]; omega
  have d2 : decide ((n : Int) < (a : Int)) = false := by rw [decide_eq_false_iff_not]; omega
  have d3 : decide (k < 1) = false := by rw [decide_eq_false_iff_not]; omega
  have d4 : decide ((255 : Int) < k) = false := by rw [decide_eq_false_iff_not]; omega
  have d5 : decide (t < 0) = false := by rw [decide_eq_false_iff_not]; omega
  have d6 : decide ((1048576 : Int) < t) = false := by rw [decide_eq_false_iff_not]; omega
  have d7 : decide (r < 0) = false := by rw [decide_eq_false_iff_not]; omega
  have d8 : decide ((1048576 : Int) < r) = false := by rw [decide_eq_false_iff_not]; omega
  have d2' : decide (n < a) = false := by rw [decide_eq_false_iff_not]; omega
  have hmx := h.max
  have hle := h.le
  clear h
  by_cases s1 : 2 + t + r < 16777216
  · have s2 : (n : Int) - (a : Int) < 2 + t + r := by omega
    have e1 : decide ((16777216 : Int) ≤ 2 + t + r) = false := by rw [decide_eq_false_iff_not]; omega
    have e2 : decide ((n : Int) - (a : Int) < 2 + t + r) = true := by rw [decide_eq_true_iff]; omega
    clear hs
    go_enter Try.func25, Try.ntmps25
    go_wp2_with fail
    go_quiet (fail)
    go_wp2_with fail
    go_quiet (fail)
    go_wp2_with fail
    go_ret2
    exact ⟨rfl, _, World.drewN_drewN _ _ _⟩
  · have e1 : decide ((16777216 : Int) ≤ 2 + t + r) = true := by rw [decide_eq_true_iff]; omega
    clear hs
    go_enter Try.func25, Try.ntmps25
    go_wp2_with fail
    go_quiet (fail)
    go_wp2_with fail
    go_quiet (fail)
    go_wp2_with fail
    go_ret2
    exact ⟨rfl, _, World.drewN_drewN _ _ _⟩
end
section
open Go.ChangeShapes Go.WideShapes Go.ChangeAt Go.RowKit
set_option linter.unusedVariables false
set_option linter.unusedSimpArgs false
/-- One word of the memory is another one. -/
def upd (F : Nat → Int) (q : Nat) (x : Int) : Nat → Int := fun j => if j = q then x else F j
structure AL (w : World) (B g n c : Nat) (top : Int) (G : Nat → Int) (wr : World) : Prop where
  box0 : wr.cell? ⟨B, 0, none⟩ = some (.slice (some ⟨g, 0, none⟩) n c)
  box1 : wr.cell? ⟨B, 1, none⟩ = some (.int .i64 top)
  fr : wr.frozen? ⟨B, 1, none⟩ = false
  row : Row wr g n c G
  le : n ≤ c
  but : But2 B g w wr
  ne : B ≠ g
theorem AL.start {w : World} {B g n c : Nat} {top : Int} {F : Nat → Int} (h : MA w B g n c top F) (q : Nat) : AL w B g n c top F (w.drewN q) :=
  ⟨h.box0, h.box1, h.fr, h.row, h.le, ⟨rfl, rfl, rfl, Nat.le_refl _, fun _ _ _ _ => rfl⟩, h.ne⟩
theorem AL.set {w : World} {B g n c : Nat} {top : Int} {G : Nat → Int} {wr : World} (h : AL w B g n c top G wr) (q : Nat) (x : Int) : AL w B g n c top (upd G q x) (wr.setCell ⟨g, q, none⟩ (.int .u64 x)) := by
  refine ⟨?_, ?_, ?_, ?_, h.le, ?_, h.ne⟩
  · rw [← h.box0]; exact World.cell?_of_block (Below.heap_setCell _ _ _ _ h.ne)
  · rw [← h.box1]; exact World.cell?_of_block (Below.heap_setCell _ _ _ _ h.ne)
  · rw [← h.fr]; exact World.frozen?_of_block (Below.heap_setCell _ _ _ _ h.ne)
  · obtain ⟨f, h1, h2⟩ := h.row
    refine ⟨_, h1.set q _, fun i hi => ?_⟩
    unfold upd
    by_cases e : i = q
    · simp only [if_pos e]
    · simp only [if_neg e]; exact h2 i hi
  · exact ⟨h.but.os, h.but.tape, h.but.output, by have := h.but.size; simpa [World.setCell] using this, fun k hk h1 h2 => by
      rw [Below.heap_setCell _ _ _ _ (by simpa using h2)]; exact h.but.block k hk h1 h2⟩
theorem AL.setTop {w : World} {B g n c : Nat} {top : Int} {G : Nat → Int} {wr : World} (h : AL w B g n c top G wr) (x : Int) : AL w B g n c x G (wr.setCell ⟨B, 1, none⟩ (.int .i64 x)) := by
  refine ⟨?_, World.cell?_setCell_same _ _ _ h.box1, ?_, h.row.block (Below.heap_setCell _ _ _ _ (fun e => h.ne e.symm)), h.le, ?_, h.ne⟩
  · rw [← h.box0]; exact World.cell?_setCell_other _ _ _ _ (by simp)
  · rw [← h.fr]; exact World.frozen?_setCell _ _ _ _
  · exact ⟨h.but.os, h.but.tape, h.but.output, by have := h.but.size; simpa [World.setCell] using this, fun k hk h1 h2 => by
      rw [Below.heap_setCell _ _ _ _ (by simpa using h1)]; exact h.but.block k hk h1 h2⟩
theorem AL.drewN {w : World} {B g n c : Nat} {top : Int} {G : Nat → Int} {wr : World} (h : AL w B g n c top G wr) (q : Nat) : AL w B g n c top G (wr.drewN q) :=
  ⟨h.box0, h.box1, h.fr, h.row, h.le, ⟨h.but.os, h.but.tape, h.but.output, h.but.size, h.but.block⟩, h.ne⟩
theorem AL.same {w : World} {B g n c : Nat} {top : Int} {G G' : Nat → Int} {wr : World} (h : AL w B g n c top G wr) (e : ∀ i, G i = G' i) : AL w B g n c top G' wr := by
  have : G = G' := funext e
  exact this ▸ h
def fillTo (F : Nat → Int) (a : Nat) (hd : Int) (T p : Nat) : Nat → Int := fun j => if j = a then hd else if j = a + 1 then 0 else if a + 2 ≤ j ∧ j < a + 2 + p then (if j < a + 2 + T then 2 else 0) else F j
theorem fill_zero (F : Nat → Int) (a : Nat) (hd : Int) (T : Nat) : ∀ j, upd (upd F a hd) (a + 1) 0 j = fillTo F a hd T 0 j := by
  intro j; unfold upd fillTo
  by_cases h1 : j = a + 1
  · subst h1; rw [if_pos rfl, if_neg (by omega), if_pos rfl]
  · rw [if_neg h1]
    by_cases h2 : j = a
    · rw [if_pos h2, if_pos h2]
    · rw [if_neg h2, if_neg h2, if_neg h1, if_neg (by omega)]
theorem fill_step (F : Nat → Int) (a : Nat) (hd : Int) (T p : Nat) (x : Int) (hx : x = if p < T then 2 else 0) : ∀ j, upd (fillTo F a hd T p) (a + 2 + p) x j = fillTo F a hd T (p + 1) j := by
  intro j; unfold upd fillTo
  by_cases h : j = a + 2 + p
  · subst h
    rw [if_pos rfl, if_neg (by omega), if_neg (by omega), if_pos (by omega), hx]
    by_cases hp : p < T
    · rw [if_pos hp, if_pos (by omega)]
    · rw [if_neg hp, if_neg (by omega)]
  · rw [if_neg h]
    by_cases h1 : j = a
    · rw [if_pos h1, if_pos h1]
    · rw [if_neg h1, if_neg h1]
      by_cases h2 : j = a + 1
      · rw [if_pos h2, if_pos h2]
      · rw [if_neg h2, if_neg h2]
        by_cases h3 : a + 2 ≤ j ∧ j < a + 2 + p
        · rw [if_pos h3, if_pos (show a + 2 ≤ j ∧ j < a + 2 + (p + 1) by omega)]
        · rw [if_neg h3, if_neg (show ¬ (a + 2 ≤ j ∧ j < a + 2 + (p + 1)) by omega)]
theorem upd_upd (F : Nat → Int) (q : Nat) (x y : Int) : ∀ j, upd (upd F q x) q y j = upd F q y j := by
  intro j; unfold upd; split <;> rfl
theorem headOf (k t s : Int) (h1 : 0 ≤ k ∧ k ≤ 255) (h2 : 0 ≤ t ∧ t ≤ 16777215) (h3 : 0 ≤ s ∧ s ≤ 16777215) :
    bits BinOp.or IntKind.u64 (bits BinOp.or IntKind.u64 k (t * 256)) (s * 4294967296) = k + t * 256 + s * 4294967296 := by
  have wr : ∀ n : Int, 0 ≤ n → n < 2 ^ 64 → IntKind.u64.wrap n = n := fun n h₀ h₁ => by rw [u64w]; omega
  have comm : ∀ a b : Int, 0 ≤ a → a < 18446744073709551616 → 0 ≤ b → b < 18446744073709551616 → bits BinOp.or IntKind.u64 a b = bits BinOp.or IntKind.u64 b a := fun a b x1 x2 x3 x4 => by
    rw [u64_or a b x1 x2 x3 x4, u64_or b a x3 x4 x1 x2, Nat.or_comm]
  rw [comm k (t * 256) (by omega) (by omega) (by omega) (by omega)]
  rw [bits_join .u64 64 (by decide) wr 8 (t * 256) k (by omega) (by omega) (by omega) (by omega) (by omega) (by omega)]
  rw [comm (t * 256 + k) (s * 4294967296) (by omega) (by omega) (by omega) (by omega)]
  rw [bits_join .u64 64 (by decide) wr 32 (s * 4294967296) (t * 256 + k) (by omega) (by omega) (by omega) (by omega) (by omega) (by omega)]
  omega
set_option maxRecDepth 100000 in
set_option maxHeartbeats 1000000 in
theorem alloc_good (B g n c : Nat) (top : Int) (F : Nat → Int) (k t r : Int) (w : World) (h : MA w B g n c top F) (hb : 1 ≤ top ∧ top ≤ n ∧ 1 ≤ k ∧ k ≤ 255 ∧ 0 ≤ t ∧ t ≤ 1048576 ∧ 0 ≤ r ∧ r ≤ 1048576) (hs : 2 + t + r < 16777216 ∧ 2 + t + r ≤ n - top) :
    Calls Try.prog 25 #[.pointer (some ⟨B, 0, none⟩), .int .i64 k, .int .i64 t, .int .i64 r] w fun e w' => e = .returned (.tuple #[.int .i64 top, .int .i64 0]) ∧ AL w B g n c (top + (2 + t + r)) (fillTo F top.toNat (k + t * 256 + (2 + t + r) * 4294967296) t.toNat (t + r).toNat) w' := by
  obtain ⟨b1, b2, b3, b4, b5, b6, b7, b8⟩ := hb
  obtain ⟨s1, s2⟩ := hs
  obtain ⟨a, rfl⟩ := Int.eq_ofNat_of_zero_le (by omega : 0 ≤ top)
  obtain ⟨T, rfl⟩ := Int.eq_ofNat_of_zero_le b5
  obtain ⟨R, rfl⟩ := Int.eq_ofNat_of_zero_le b7
  have HF := Lib.hid (show fillTo F (a : Int).toNat (k + (T : Int) * 256 + (2 + (T : Int) + (R : Int)) * 4294967296) (T : Int).toNat ((T : Int) + (R : Int)).toNat = fillTo F a (k + (T : Int) * 256 + (2 + (T : Int) + (R : Int)) * 4294967296) T (T + R) by
    rw [Int.toNat_natCast, Int.toNat_natCast, show ((T : Int) + (R : Int)).toNat = T + R by omega])
  have HH := Lib.hid (headOf k T (2 + (T : Int) + (R : Int)) (by omega) (by omega) (by omega))
  have hS0 := Lib.hid (AL.start h)
  have h0 := h.box0
  have h1 := h.box1
  have d1 : decide ((a : Int) < 1) = false := by rw [decide_eq_false_iff_not]; omega
  have d2 : decide ((n : Int) < (a : Int)) = false := by rw [decide_eq_false_iff_not]; omega
  have d3 : decide (k < 1) = false := by rw [decide_eq_false_iff_not]; omega
  have d4 : decide ((255 : Int) < k) = false := by rw [decide_eq_false_iff_not]; omega
  have d5 : decide ((T : Int) < 0) = false := by rw [decide_eq_false_iff_not]; omega
  have d6 : decide ((1048576 : Int) < (T : Int)) = false := by rw [decide_eq_false_iff_not]; omega
  have d7 : decide ((R : Int) < 0) = false := by rw [decide_eq_false_iff_not]; omega
  have d8 : decide ((1048576 : Int) < (R : Int)) = false := by rw [decide_eq_false_iff_not]; omega
  have d2' : decide (n < a) = false := by rw [decide_eq_false_iff_not]; omega
  have hmx := h.max
  have hle := h.le
  have e1 : decide ((16777216 : Int) ≤ 2 + (T : Int) + (R : Int)) = false := by rw [decide_eq_false_iff_not]; omega
  have e2 : decide ((n : Int) - (a : Int) < 2 + (T : Int) + (R : Int)) = false := by rw [decide_eq_false_iff_not]; omega
  go_enter Try.func25, Try.ntmps25
  go_wp2_with fail
  go_quiet (fail)
  go_wp2_with fail
  go_quiet (fail)
  go_wp2_with fail
  refine (const_any 0 (by decide) _).mono ?_
  rintro e w1 ⟨rfl, rfl⟩
  have k1 : constW 0 = 2 := rfl
  have k2 : constE 0 = 0 := rfl
  rw [k1, k2]
  clear k1 k2
  have hr0 := h.row.cell h.le (i := a) (by omega)
  have hr1 := h.row.cell h.le (i := a + 1) (by omega)
  have hf0 := h.row.frozen a
  have hf1 := h.row.frozen (a + 1)
  obtain ⟨o2, ho2, hsl⟩ := sl_mid (P := Try.prog) 22 sliceU64 sizeU64 g 0 n c (a + 2) (T + R) (by omega)
  rw [show ((a + 2 : Nat) : Int) = (a : Int) + 2 by omega, show (a : Int) + 2 + ((T + R : Nat) : Int) = (a : Int) + (2 + (T : Int) + (R : Int)) by omega] at hsl
  go_wp2_with fail
  generalize hwa : World.setCell (World.setCell _ _ _) _ _ = wa
  have HA : Hid (AL w B g n c a (fillTo F a (k + (T : Int) * 256 + (2 + (T : Int) + (R : Int)) * 4294967296) T 0) wa) := by
    rw [← hwa, HH.out]
    exact (((hS0.out _).set a _).set (a + 1) 0).same (fill_zero F a _ T)
  clear hwa hr0 hr1 hf0 hf1 h0 h1 hsl
  go_loopw [124] (fun s wr => ∃ p : Nat, s = .int .i64 p ∧ p ≤ T + R ∧ AL w B g n c a (fillTo F a (k + (T : Int) * 256 + (2 + (T : Int) + (R : Int)) * 4294967296) T p) wr) (fun s _ => T + R - (intOf s).toNat)
  case atStart => exact ⟨0, by go_num, Nat.zero_le _, HA.out⟩
  case round =>
    obtain ⟨p, rfl, hp, hS⟩ := hrel
    by_cases hlt : p < T + R
    · obtain rfl : o2 = a + 2 := by rw [ho2 (by omega), Nat.zero_add]
      have hc1 := hS.row.cell hS.le (i := a + 2 + p) (by omega)
      have hf1 := hS.row.frozen (a + 2 + p)
      have hpi : (p : Int) < (T : Int) + (R : Int) := by omega
      by_cases hpT : p < T
      · have hN := Lib.hid (((hS.set (a + 2 + p) 0).set (a + 2 + p) 2).same (fun j => (upd_upd _ _ 0 2 j).trans (fill_step F a _ T p 2 (by rw [if_pos hpT]) j)))
        have hc2 := (hS.set (a + 2 + p) 0).row.cell hS.le (i := a + 2 + p) (by omega)
        have hf2 := (hS.set (a + 2 + p) 0).row.frozen (a + 2 + p)
        generalize fillTo F a (k + (T : Int) * 256 + (2 + (T : Int) + (R : Int)) * 4294967296) T p (a + 2 + p) = x0 at hc1
        generalize upd _ _ _ _ = x1 at hc2
        go_wp2_with fail
        go_roundw
        case rel => exact ⟨p + 1, by go_num, by omega, hN.out⟩
        case measure => simp [intOf]; omega
      · have hN := Lib.hid ((hS.set (a + 2 + p) 0).same (fill_step F a _ T p 0 (by rw [if_neg hpT])))
        generalize fillTo F a (k + (T : Int) * 256 + (2 + (T : Int) + (R : Int)) * 4294967296) T p (a + 2 + p) = x0 at hc1
        go_wp2_with fail
        go_roundw
        case rel => exact ⟨p + 1, by go_num, by omega, hN.out⟩
        case measure => simp [intOf]; omega
    · have hb1 := hS.box1
      have hb0 := hS.box0
      have hfr := hS.fr
      obtain rfl : p = T + R := by omega
      have hF := Lib.hid (hS.setTop ((a : Int) + (2 + (T : Int) + (R : Int))))
      go_wp2_with fail
      go_ret2
      exact ⟨rfl, by rw [HF.out]; exact hF.out⟩
end
section
open Go.ChangeShapes Go.WideShapes Go.ChangeAt Go.RowKit
set_option linter.unusedVariables false
set_option linter.unusedSimpArgs false
def RBPost (W : World) (p : Option Addr) (n c : Nat) (top x : Int) (e : Ending) (w' : World) : Prop :=
  e = .returned (.tuple #[.agg #[.slice p n c, .int .i64 top], .int .i64 0, .int .i64 x]) ∧ Below W.heap.size W w'
set_option maxRecDepth 100000 in
set_option maxHeartbeats 1000000 in
theorem refalloc_one (p : Option Addr) (n c : Nat) (top : Int) (k t r : Int) (w : World) (hb : allocErr n top k t r = 1) (hx : -9223372036854775808 ≤ top ∧ top ≤ 9223372036854775807) :
    Calls Try.prog 47 #[.agg #[.slice p n c, .int .i64 top], .int .i64 k, .int .i64 t, .int .i64 r] w (RBPost w p n c top 1) := by
  have hb' : ¬ (1 ≤ top ∧ top ≤ n ∧ 1 ≤ k ∧ k ≤ 255 ∧ 0 ≤ t ∧ t ≤ 1048576 ∧ 0 ≤ r ∧ r ≤ 1048576) := by
    intro g
    unfold allocErr at hb
    rw [if_pos g] at hb
    split at hb <;> omega
  clear hb
  by_cases a0 : top < 1
  · have d0 : decide (top < 1) = true := by rw [decide_eq_true_iff]; omega
    go_enter Try.func47, Try.ntmps47
    go_wp2_with fail
    refine bodyPost_ret (v := .tuple #[.agg #[.slice p n c, .int .i64 top], .int .i64 0, .int .i64 1]) (by simp [results, Try.results47, go_sem]) rfl ⟨rfl, ?_⟩
    exact (((Below.refl _ _).alloc (Nat.le_refl _) _).alloc (by simp) _)
  · skip
    by_cases a1 : (n : Int) < top
    · have d0 : decide (top < 1) = false := by rw [decide_eq_false_iff_not]; omega
      have d1 : decide ((n : Int) < top) = true := by rw [decide_eq_true_iff]; omega
      go_enter Try.func47, Try.ntmps47
      go_wp2_with fail
      refine bodyPost_ret (v := .tuple #[.agg #[.slice p n c, .int .i64 top], .int .i64 0, .int .i64 1]) (by simp [results, Try.results47, go_sem]) rfl ⟨rfl, ?_⟩
      exact (((Below.refl _ _).alloc (Nat.le_refl _) _).alloc (by simp) _)
    · skip
      by_cases a2 : k < 1
      · have d0 : decide (top < 1) = false := by rw [decide_eq_false_iff_not]; omega
        have d1 : decide ((n : Int) < top) = false := by rw [decide_eq_false_iff_not]; omega
        have d2 : decide (k < 1) = true := by rw [decide_eq_true_iff]; omega
        go_enter Try.func47, Try.ntmps47
        go_wp2_with fail
        refine bodyPost_ret (v := .tuple #[.agg #[.slice p n c, .int .i64 top], .int .i64 0, .int .i64 1]) (by simp [results, Try.results47, go_sem]) rfl ⟨rfl, ?_⟩
        exact (((Below.refl _ _).alloc (Nat.le_refl _) _).alloc (by simp) _)
      · skip
        by_cases a3 : 255 < k
        · have d0 : decide (top < 1) = false := by rw [decide_eq_false_iff_not]; omega
          have d1 : decide ((n : Int) < top) = false := by rw [decide_eq_false_iff_not]; omega
          have d2 : decide (k < 1) = false := by rw [decide_eq_false_iff_not]; omega
          have d3 : decide (255 < k) = true := by rw [decide_eq_true_iff]; omega
          go_enter Try.func47, Try.ntmps47
          go_wp2_with fail
          refine bodyPost_ret (v := .tuple #[.agg #[.slice p n c, .int .i64 top], .int .i64 0, .int .i64 1]) (by simp [results, Try.results47, go_sem]) rfl ⟨rfl, ?_⟩
          exact (((Below.refl _ _).alloc (Nat.le_refl _) _).alloc (by simp) _)
        · skip
          by_cases a4 : t < 0
          · have d0 : decide (top < 1) = false := by rw [decide_eq_false_iff_not]; omega
            have d1 : decide ((n : Int) < top) = false := by rw [decide_eq_false_iff_not]; omega
            have d2 : decide (k < 1) = false := by rw [decide_eq_false_iff_not]; omega
            have d3 : decide (255 < k) = false := by rw [decide_eq_false_iff_not]; omega
            have d4 : decide (t < 0) = true := by rw [decide_eq_true_iff]; omega
            go_enter Try.func47, Try.ntmps47
            go_wp2_with fail
            refine bodyPost_ret (v := .tuple #[.agg #[.slice p n c, .int .i64 top], .int .i64 0, .int .i64 1]) (by simp [results, Try.results47, go_sem]) rfl ⟨rfl, ?_⟩
            exact (((Below.refl _ _).alloc (Nat.le_refl _) _).alloc (by simp) _)
          · skip
            by_cases a5 : 1048576 < t
            · have d0 : decide (top < 1) = false := by rw [decide_eq_false_iff_not]; omega
              have d1 : decide ((n : Int) < top) = false := by rw [decide_eq_false_iff_not]; omega
              have d2 : decide (k < 1) = false := by rw [decide_eq_false_iff_not]; omega
              have d3 : decide (255 < k) = false := by rw [decide_eq_false_iff_not]; omega
              have d4 : decide (t < 0) = false := by rw [decide_eq_false_iff_not]; omega
              have d5 : decide (1048576 < t) = true := by rw [decide_eq_true_iff]; omega
              go_enter Try.func47, Try.ntmps47
              go_wp2_with fail
              refine bodyPost_ret (v := .tuple #[.agg #[.slice p n c, .int .i64 top], .int .i64 0, .int .i64 1]) (by simp [results, Try.results47, go_sem]) rfl ⟨rfl, ?_⟩
              exact (((Below.refl _ _).alloc (Nat.le_refl _) _).alloc (by simp) _)
            · skip
              by_cases a6 : r < 0
              · have d0 : decide (top < 1) = false := by rw [decide_eq_false_iff_not]; omega
                have d1 : decide ((n : Int) < top) = false := by rw [decide_eq_false_iff_not]; omega
                have d2 : decide (k < 1) = false := by rw [decide_eq_false_iff_not]; omega
                have d3 : decide (255 < k) = false := by rw [decide_eq_false_iff_not]; omega
                have d4 : decide (t < 0) = false := by rw [decide_eq_false_iff_not]; omega
                have d5 : decide (1048576 < t) = false := by rw [decide_eq_false_iff_not]; omega
                have d6 : decide (r < 0) = true := by rw [decide_eq_true_iff]; omega
                go_enter Try.func47, Try.ntmps47
                go_wp2_with fail
                refine bodyPost_ret (v := .tuple #[.agg #[.slice p n c, .int .i64 top], .int .i64 0, .int .i64 1]) (by simp [results, Try.results47, go_sem]) rfl ⟨rfl, ?_⟩
                exact (((Below.refl _ _).alloc (Nat.le_refl _) _).alloc (by simp) _)
              · skip
                have d0 : decide (top < 1) = false := by rw [decide_eq_false_iff_not]; omega
                have d1 : decide ((n : Int) < top) = false := by rw [decide_eq_false_iff_not]; omega
                have d2 : decide (k < 1) = false := by rw [decide_eq_false_iff_not]; omega
                have d3 : decide (255 < k) = false := by rw [decide_eq_false_iff_not]; omega
                have d4 : decide (t < 0) = false := by rw [decide_eq_false_iff_not]; omega
                have d5 : decide (1048576 < t) = false := by rw [decide_eq_false_iff_not]; omega
                have d6 : decide (r < 0) = false := by rw [decide_eq_false_iff_not]; omega
                have d7 : decide (1048576 < r) = true := by rw [decide_eq_true_iff]; omega
                go_enter Try.func47, Try.ntmps47
                go_wp2_with fail
                refine bodyPost_ret (v := .tuple #[.agg #[.slice p n c, .int .i64 top], .int .i64 0, .int .i64 1]) (by simp [results, Try.results47, go_sem]) rfl ⟨rfl, ?_⟩
                exact (((Below.refl _ _).alloc (Nat.le_refl _) _).alloc (by simp) _)
theorem err_five {n : Nat} {top k t r : Int} (hb : allocErr n top k t r = 5) : (1 ≤ top ∧ top ≤ n ∧ 1 ≤ k ∧ k ≤ 255 ∧ 0 ≤ t ∧ t ≤ 1048576 ∧ 0 ≤ r ∧ r ≤ 1048576) ∧ ¬ (2 + t + r < 16777216 ∧ 2 + t + r ≤ n - top) := by
  unfold allocErr at hb
  split at hb
  · rename_i h
    split at hb
    · omega
    · rename_i h'; exact ⟨h, h'⟩
  · omega
set_option maxRecDepth 100000 in
set_option maxHeartbeats 1000000 in
theorem refalloc_five (p : Option Addr) (n c : Nat) (top : Int) (k t r : Int) (w : World) (hn : n ≤ 17592186043904) (hb : allocErr n top k t r = 5) :
    Calls Try.prog 47 #[.agg #[.slice p n c, .int .i64 top], .int .i64 k, .int .i64 t, .int .i64 r] w (RBPost w p n c top 5) := by
  obtain ⟨⟨b1, b2, b3, b4, b5, b6, b7, b8⟩, hb'⟩ := err_five hb
  clear hb
  have c1 : decide ((16777216 : Int) ≤ t + r + 2) = false := by rw [decide_eq_false_iff_not]; omega
  have c2 : decide ((n : Int) < top + (t + r + 2)) = true := by rw [decide_eq_true_iff]; omega
  have d0 : decide (top < 1) = false := by rw [decide_eq_false_iff_not]; omega
  have d1 : decide ((n : Int) < top) = false := by rw [decide_eq_false_iff_not]; omega
  have d2 : decide (k < 1) = false := by rw [decide_eq_false_iff_not]; omega
  have d3 : decide (255 < k) = false := by rw [decide_eq_false_iff_not]; omega
  have d4 : decide (t < 0) = false := by rw [decide_eq_false_iff_not]; omega
  have d5 : decide (1048576 < t) = false := by rw [decide_eq_false_iff_not]; omega
  have d6 : decide (r < 0) = false := by rw [decide_eq_false_iff_not]; omega
  have d7 : decide (1048576 < r) = false := by rw [decide_eq_false_iff_not]; omega
  go_enter Try.func47, Try.ntmps47
  go_wp2_with fail
  refine bodyPost_ret (v := .tuple #[.agg #[.slice p n c, .int .i64 top], .int .i64 0, .int .i64 5]) (by simp [results, Try.results47, go_sem]) rfl ⟨rfl, ?_⟩
  exact (((Below.refl _ _).alloc (Nat.le_refl _) _).alloc (by simp) _)
end
section
open Go.ChangeShapes Go.WideShapes Go.ChangeAt Go.RowKit
set_option linter.unusedVariables false
set_option linter.unusedSimpArgs false
def headWord (k : Int) (T R : Nat) : Int := k + (T : Int) * 256 + (2 + (T : Int) + (R : Int)) * 4294967296
def allocL (ws : List Int) (a : Nat) (hd : Int) (T M : Nat) : List Int := (List.range ws.length).map (fillTo (fun i => ws.getD i 0) a hd T M)
def RAPost (W : World) (ws : List Int) (a : Nat) (k : Int) (T R : Nat) (e : Ending) (w' : World) : Prop :=
  ∃ v', e = .returned (.tuple #[.agg #[v', .int .i64 ((a : Int) + ((T : Int) + (R : Int) + 2))], .int .i64 (a : Int), .int .i64 0]) ∧ Rd w' v' (allocL ws a (headWord k T R) T (T + R)) ∧ Below W.heap.size W w'
theorem row_own {w : World} {B : Nat} {v : Value} {ws : List Int} (h : w.ownsRow B 29 1 v ws.length (ws.map (Value.int .u64))) (h0 : 0 < ws.length) :
    ∃ g cap, v = .slice (some ⟨g, 0, none⟩) ws.length cap ∧ B ≤ g ∧ ws.length ≤ cap ∧ Row w g ws.length cap (fun i => ws.getD i 0) := by
  rcases h.2 with ⟨_, h2⟩ | ⟨g, cap, cur, hv, hg, r1, r2, r3, r4, r5⟩
  · omega
  · rw [Nat.mul_one] at r4 r5
    refine ⟨g, cap, hv, hg, r2, fun i => cur.toList.getD i undef, ⟨cur, r1, r4, fun i hi => ?_⟩, fun i hi => ?_⟩
    · have : i < cur.size := by omega
      simp [List.getD_eq_getElem?_getD, this]
    · have e : (cur.toList.take ws.length)[i]? = (ws.map (Value.int .u64))[i]? := by rw [r5]
      rw [List.getElem?_take, if_pos hi, List.getElem?_map, List.getElem?_eq_getElem hi] at e
      simp only [List.getD_eq_getElem?_getD, e, List.getElem?_eq_getElem hi]
      rfl
theorem rd_ofRow {w : World} {g n c : Nat} {F : Nat → Int} (h : Row w g n c F) (hn : n ≤ c) (hm : n ≤ 17592186043904) : Rd w (.slice (some ⟨g, 0, none⟩) n c) ((List.range n).map F) := by
  have hlen : ((List.range n).map F).length = n := by simp
  refine .inr ⟨g, 0, c, by rw [hlen], by rw [hlen]; exact hn, by rw [hlen]; exact hm, fun i hi => ?_⟩
  rw [hlen] at hi
  rw [Nat.zero_add, h.cell hn hi]
  simp [List.getD_eq_getElem?_getD, hi]
theorem AL.cellAt {w : World} {B g n c : Nat} {top : Int} {G : Nat → Int} {wr : World} (h : AL w B g n c top G wr) {q o : Nat} {v : Value} (hv : w.cell? ⟨q, o, none⟩ = some v) (h1 : q < w.heap.size) (h2 : q ≠ B) (h3 : q ≠ g) : wr.cell? ⟨q, o, none⟩ = some v := by
  rw [← hv]; exact World.cell?_of_block (h.but.block q h1 h2 h3)
theorem AL.below {W w : World} {B g n c : Nat} {top : Int} {G : Nat → Int} {wr : World} (h : AL w B g n c top G wr) (hb : Below W.heap.size W w) (h2 : W.heap.size ≤ B) (h3 : W.heap.size ≤ g) : Below W.heap.size W wr := by
  have hs := hb.size
  refine ⟨?_, ?_, ?_, ?_, ?_⟩
  · rw [h.but.os, hb.os]
  · rw [h.but.tape, hb.tape]
  · rw [h.but.output, hb.output]
  · exact Nat.le_trans hb.size h.but.size
  · intro k hk
    rw [h.but.block k (by omega) (by omega) (by omega)]
    exact hb.block k hk
set_option maxRecDepth 100000 in
set_option maxHeartbeats 1000000 in
theorem refalloc_good (v : Value) (ws : List Int) (a : Nat) (k : Int) (T R : Nat) (w : World) (hr : Rd w v ws) (h1 : 1 ≤ a) (h2 : a ≤ ws.length) (hk : 1 ≤ k ∧ k ≤ 255) (hT : (T : Int) ≤ 1048576) (hR : (R : Int) ≤ 1048576) (hs : (2 : Int) + T + R < 16777216 ∧ (2 : Int) + T + R ≤ (ws.length : Int) - (a : Int)) :
    Calls Try.prog 47 #[.agg #[v, .int .i64 a], .int .i64 k, .int .i64 T, .int .i64 R] w (RAPost w ws a k T R) := by
  obtain ⟨b, off, c, rfl, hl, hc, hcell⟩ := hr.some (by omega)
  have HR := Lib.hid hr
  obtain ⟨b3, b4⟩ := hk
  obtain ⟨s1, s2⟩ := hs
  clear hcell hr
  have d1 : decide ((a : Int) < 1) = false := by rw [decide_eq_false_iff_not]; omega
  have d2 : decide ((ws.length : Int) < (a : Int)) = false := by rw [decide_eq_false_iff_not]; omega
  have d3 : decide (k < 1) = false := by rw [decide_eq_false_iff_not]; omega
  have d4 : decide ((255 : Int) < k) = false := by rw [decide_eq_false_iff_not]; omega
  have d5 : decide ((T : Int) < 0) = false := by rw [decide_eq_false_iff_not]; omega
  have d6 : decide ((1048576 : Int) < (T : Int)) = false := by rw [decide_eq_false_iff_not]; omega
  have d7 : decide ((R : Int) < 0) = false := by rw [decide_eq_false_iff_not]; omega
  have d8 : decide ((1048576 : Int) < (R : Int)) = false := by rw [decide_eq_false_iff_not]; omega
  have d9 : decide ((16777216 : Int) ≤ (T : Int) + (R : Int) + 2) = false := by rw [decide_eq_false_iff_not]; omega
  have d10 : decide ((ws.length : Int) < (a : Int) + ((T : Int) + (R : Int) + 2)) = false := by rw [decide_eq_false_iff_not]; omega
  have d2' : decide (ws.length < a) = false := by rw [decide_eq_false_iff_not]; omega
  go_enter Try.func47, Try.ntmps47
  go_wp2_with fail
  generalize hW0 : World.alloc (World.alloc w _) _ = W0
  have hA0 : Below w.heap.size w W0 := by rw [← hW0]; exact ((Below.refl _ _).alloc (Nat.le_refl _) _).alloc (by simp) _
  have hsz0 : W0.heap.size = w.heap.size + 2 := by rw [← hW0]; simp
  have q0 : W0.cell? ⟨w.heap.size, 0, none⟩ = some (.slice (some ⟨b, off, none⟩) ws.length c) := by rw [← hW0]; exact alloc_cell (by simp) _
  have q1 : W0.cell? ⟨w.heap.size, 1, none⟩ = some (.int .i64 a) := by rw [← hW0]; exact alloc_cell (by simp) _
  have z0 : W0.cell? ⟨w.heap.size + 1, 0, none⟩ = some (.slice none 0 0) := by rw [← hW0]; simp
  have z1 : W0.cell? ⟨w.heap.size + 1, 1, none⟩ = some (.int .i64 0) := by rw [← hW0]; simp
  have zf0 : W0.frozen? ⟨w.heap.size + 1, 0, none⟩ = false := by rw [← hW0]; simp
  have zf1 : W0.frozen? ⟨w.heap.size + 1, 1, none⟩ = false := by rw [← hW0]; simp
  have Z := Lib.hid (And.intro (And.intro z0 z1) (And.intro zf0 zf1))
  clear hW0 z0 z1 zf0 zf1
  refine (copy13_any _ ws a _ (HR.out.keep hA0)).mono ?_
  rintro e w1 ⟨v', rfl, hown, hb1⟩
  obtain ⟨g, cap, rfl, hg, hcap, hrow⟩ := row_own hown (by omega)
  have hx1 : w1.cell? ⟨w.heap.size, 1, none⟩ = some (.int .i64 a) := below_cell hb1 q1
  have hE1 := Lib.hid (hb1.block (w.heap.size + 1) (by omega))
  clear q0 q1
  have hs1 : w.heap.size + 1 < w1.heap.size := by have := hb1.size; omega
  have hB1 : Below w.heap.size w w1 := hA0.trans (hb1.mono hA0.size)
  have hg2 : w.heap.size + 2 ≤ g := by omega
  have HG := Lib.hid hg2
  have HB := Lib.hid hB1
  have HROW := Lib.hid hrow
  have HCAP := Lib.hid hcap
  clear hown hb1 hA0 hg hg2 hB1 hrow hcap d1 d2 d2' d3 d4 d5 d6 d7 d8 d9 d10
  have S1 := Lib.hid s1
  have S2 := Lib.hid s2
  have X1 := Lib.hid hx1
  clear s1 s2 hx1
  go_upto_region 7 with (fail)
  generalize hw2 : World.alloc w1 _ = w2
  have hxa1 : w2.cell? ⟨w.heap.size, 1, none⟩ = some (.int .i64 a) := by rw [← hw2]; exact alloc_cell X1.out _
  have hm : MA w2 w1.heap.size g ws.length cap a (fun i => ws.getD i 0) := by
    rw [← hw2]
    exact ⟨by simp, by simp, by simp, HROW.out.block (Below.heap_alloc _ _ _ HROW.out.lt), HCAP.out, hc, by have := HROW.out.lt; omega⟩
  have HM := Lib.hid hm
  have hB2 : Below w.heap.size w w2 := by rw [← hw2]; exact HB.out.alloc (by omega) _
  have HB2 := Lib.hid hB2
  have HE := Lib.hid (show w2.heap[w.heap.size + 1]? = W0.heap[w.heap.size + 1]? by rw [← hw2]; exact (Below.heap_alloc _ _ _ hs1).trans hE1.out)
  have hlt2 : w.heap.size + 1 < w2.heap.size := by rw [← hw2]; simp; omega
  have hge : w.heap.size + 1 < w1.heap.size := hs1
  clear hB2 hw2 X1 HB HROW hs1 hE1
  generalize hBB : w1.heap.size = B at *
  clear hBB
  have hb0 := hm.box0
  have hb1 := hm.box1
  have hS0 := Lib.hid (AL.start hm)
  have hr0 := hm.row.cell hm.le (i := a) (by have := S2.out; omega)
  have hf0 := hm.row.frozen a
  have hai : (a : Int) < (ws.length : Int) := by have := S2.out; omega
  clear hm
  generalize ws.getD a 0 = z0 at hr0
  go_upto_region 8 with (fail)
  generalize hwa : World.setCell w2 _ _ = wa
  have HA : Hid (AL w2 B g ws.length cap a (upd (fun i => ws.getD i 0) a (headWord k T R)) wa) := by
    rw [← hwa, show k + 256 * (T : Int) + 4294967296 * ((T : Int) + (R : Int) + 2) = headWord k T R by unfold headWord; omega]
    exact (hS0.out 0).set a _
  clear hwa hr0 hf0 hb0 hb1 hS0 z0
  have hS := HA.out
  have hb0 := hS.box0
  have hb1 := hS.box1
  have hr1 := hS.row.cell hS.le (i := a + 1) (by have := S2.out; omega)
  have hf1 := hS.row.frozen (a + 1)
  have hxa := hS.cellAt hxa1 (by omega) (by omega) (by have := HG.out; omega)
  have ha1 : (a : Int) + 1 < (ws.length : Int) := by have := S2.out; omega
  clear hS
  generalize upd _ _ _ _ = z1 at hr1
  go_upto_region 9 with (fail)
  generalize hwb : World.setCell wa _ _ = wb
  have HA2 : Hid (AL w2 B g ws.length cap a (fillTo (fun i => ws.getD i 0) a (headWord k T R) T 0) wb) := by
    rw [← hwb]
    exact (HA.out.set (a + 1) 0).same (fill_zero _ a _ T)
  have hgw : w.heap.size + 1 < g := by have := HG.out; omega
  have s1 : (a : Int) + ((T : Int) + (R : Int)) + 2 ≤ (ws.length : Int) := by have := S2.out; omega
  clear hwb hr1 hf1 hb0 hb1 hxa ha1 z1 HA
  go_wp2_with fail
  go_loopw [13] (fun s wr => ∃ p : Nat, s = .int .i64 p ∧ p ≤ T ∧ AL w2 B g ws.length cap a (fillTo (fun i => ws.getD i 0) a (headWord k T R) T p) wr) (fun s _ => T - (intOf s).toNat)
  case atStart => exact ⟨0, by go_num, Nat.zero_le _, HA2.out⟩
  case round =>
    obtain ⟨p, rfl, hp, hS⟩ := hrel
    have hb0 := hS.box0
    have hb1 := hS.box1
    have hxa := hS.cellAt hxa1 (by omega) (by omega) (by omega)
    by_cases hlt : p < T
    · have hpi : (p : Int) < (T : Int) := by omega
      have hc1 := hS.row.cell hS.le (i := a + 2 + p) (by omega)
      have hf1 := hS.row.frozen (a + 2 + p)
      have hN := Lib.hid ((hS.set (a + 2 + p) 2).same (fill_step _ a _ T p 2 (by rw [if_pos hlt])))
      generalize fillTo _ _ _ _ _ (a + 2 + p) = x0 at hc1
      go_wp2_with fail
      go_roundw
      case rel => exact ⟨p + 1, by go_num, by omega, hN.out⟩
      case measure => simp [intOf]; omega
    · obtain rfl : p = T := by omega
      go_wp2_with fail
      clear hb0 hb1 hxa hlt hp HA2
      have HS := Lib.hid hS
      clear hS
      go_loopw [14] (fun s wr => ∃ j : Nat, s = .int .i64 j ∧ j ≤ R ∧ AL w2 B g ws.length cap a (fillTo (fun i => ws.getD i 0) a (headWord k p R) p (p + j)) wr) (fun s _ => R - (intOf s).toNat)
      case atStart => exact ⟨0, by go_num, Nat.zero_le _, HS.out⟩
      case round =>
        obtain ⟨j, rfl, hj, hS⟩ := hrel
        have hb0 := hS.box0
        have hb1 := hS.box1
        have hxa := hS.cellAt hxa1 (by omega) (by omega) (by omega)
        by_cases hlt : j < R
        · have hpi : (j : Int) < (R : Int) := by omega
          have hc1 := hS.row.cell hS.le (i := a + 2 + p + j) (by omega)
          have hf1 := hS.row.frozen (a + 2 + p + j)
          have hN := Lib.hid ((hS.set (a + 2 + (p + j)) 0).same (fill_step _ a _ p (p + j) 0 (by rw [if_neg (by omega)])))
          rw [show a + 2 + (p + j) = a + 2 + p + j by omega] at hN
          generalize fillTo _ _ _ _ _ (a + 2 + p + j) = x0 at hc1
          go_wp2_with fail
          go_roundw
          case rel => exact ⟨j + 1, by go_num, by omega, hN.out⟩
          case measure => simp [intOf]; omega
        · obtain rfl : j = R := by omega
          have hfr := hS.fr
          have hF := hS.setTop ((a : Int) + ((p : Int) + (j : Int) + 2))
          have hEE := Lib.hid ((hF.but.block (w.heap.size + 1) (by omega) (by omega) (by omega)).trans HE.out)
          have hFB := Lib.hid (hF.below HB2.out (by omega) (by omega))
          have HF := Lib.hid hF
          clear hF
          go_wp2_with fail
          generalize World.setCell wr _ _ = wf at *
          clear hb0 hb1 hxa hfr hS HS hj hlt
          have c0 := HF.out.box0
          have c1 := HF.out.box1
          have cx := HF.out.cellAt hxa1 (by omega) (by omega) (by omega)
          have y0 := (World.cell?_of_block (a := ⟨w.heap.size + 1, 0, none⟩) hEE.out).trans Z.out.1.1
          have y1 := (World.cell?_of_block (a := ⟨w.heap.size + 1, 1, none⟩) hEE.out).trans Z.out.1.2
          have y2 := (World.frozen?_of_block (a := ⟨w.heap.size + 1, 0, none⟩) hEE.out).trans Z.out.2.1
          have y3 := (World.frozen?_of_block (a := ⟨w.heap.size + 1, 1, none⟩) hEE.out).trans Z.out.2.2
          go_region
          all_goals go_wp2_with fail
          all_goals have z2 := two_set (x0 := .slice (some ⟨g, 0, none⟩) ws.length cap) (x1 := .int .i64 ((a : Int) + ((p : Int) + (j : Int) + 2))) y0 y1
          all_goals refine bodyPost_ret (v := .tuple #[.agg #[.slice (some ⟨g, 0, none⟩) ws.length cap, .int .i64 ((a : Int) + ((p : Int) + (j : Int) + 2))], .int .i64 (a : Int), .int .i64 0]) (by simp [results, Try.results47, go_sem, z2.1, z2.2]) rfl ?_
          all_goals refine ⟨_, rfl, rd_ofRow (HF.out.row.block ?_) HCAP.out hc, ((hFB.out.setCell (by simp) _).setCell (by simp) _).drew⟩
          all_goals exact (Below.heap_setCell _ _ _ _ (by simp; omega)).trans (Below.heap_setCell _ _ _ _ (by simp; omega))
end
section
open Go.ChangeShapes Go.WideShapes Go.ChangeAt Go.RowKit
set_option linter.unusedVariables false
set_option linter.unusedSimpArgs false
def resL (ws : List Int) (top k t r : Int) : List Int := if allocErr ws.length top k t r = 0 then allocL ws top.toNat (k + t * 256 + (2 + t + r) * 4294967296) t.toNat (t + r).toNat else ws
def resTop (ws : List Int) (top k t r : Int) : Int := if allocErr ws.length top k t r = 0 then top + (2 + t + r) else top
def resAt (ws : List Int) (top k t r : Int) : Int := if allocErr ws.length top k t r = 0 then top else 0
theorem err_cases (n : Nat) (top k t r : Int) : (allocErr n top k t r = 0 ∧ (1 ≤ top ∧ top ≤ n ∧ 1 ≤ k ∧ k ≤ 255 ∧ 0 ≤ t ∧ t ≤ 1048576 ∧ 0 ≤ r ∧ r ≤ 1048576) ∧ (2 + t + r < 16777216 ∧ 2 + t + r ≤ n - top)) ∨ allocErr n top k t r = 1 ∨ allocErr n top k t r = 5 := by
  unfold allocErr
  by_cases h : 1 ≤ top ∧ top ≤ n ∧ 1 ≤ k ∧ k ≤ 255 ∧ 0 ≤ t ∧ t ≤ 1048576 ∧ 0 ≤ r ∧ r ≤ 1048576
  · rw [if_pos h]
    by_cases h2 : 2 + t + r < 16777216 ∧ 2 + t + r ≤ n - top
    · rw [if_pos h2]; exact .inl ⟨rfl, h, h2⟩
    · rw [if_neg h2]; exact .inr (.inr rfl)
  · rw [if_neg h]; exact .inr (.inl rfl)
def RefPost (W : World) (ws : List Int) (top k t r : Int) (e : Ending) (w' : World) : Prop :=
  ∃ v', e = .returned (.tuple #[.agg #[v', .int .i64 (resTop ws top k t r)], .int .i64 (resAt ws top k t r), .int .i64 (allocErr ws.length top k t r)]) ∧ Rd w' v' (resL ws top k t r) ∧ Below W.heap.size W w'
theorem Rd.bound {w : World} {v : Value} {ws : List Int} (h : Rd w v ws) : ∃ p c, v = .slice p ws.length c ∧ ws.length ≤ 17592186043904 := by
  rcases h with ⟨p, rfl, rfl⟩ | ⟨b, off, c, rfl, h1, h2, h3⟩
  · exact ⟨p, 0, rfl, by simp⟩
  · exact ⟨_, c, rfl, h2⟩
theorem refalloc_any (v : Value) (ws : List Int) (top k t r : Int) (w : World) (hr : Rd w v ws) (hx : -9223372036854775808 ≤ top ∧ top ≤ 9223372036854775807) :
    Calls Try.prog 47 #[.agg #[v, .int .i64 top], .int .i64 k, .int .i64 t, .int .i64 r] w (RefPost w ws top k t r) := by
  obtain ⟨p, c, rfl, hn⟩ := hr.bound
  rcases err_cases ws.length top k t r with ⟨h0, ⟨b1, b2, b3, b4, b5, b6, b7, b8⟩, s1, s2⟩ | h0 | h0
  · obtain ⟨a, rfl⟩ := Int.eq_ofNat_of_zero_le (by omega : 0 ≤ top)
    obtain ⟨T, rfl⟩ := Int.eq_ofNat_of_zero_le b5
    obtain ⟨R, rfl⟩ := Int.eq_ofNat_of_zero_le b7
    refine (refalloc_good _ ws a k T R w hr (by omega) (by omega) ⟨b3, b4⟩ b6 b8 ⟨s1, s2⟩).mono ?_
    rintro e w' ⟨v', rfl, h1, h2⟩
    refine ⟨v', ?_, ?_, h2⟩
    · unfold resTop resAt
      rw [if_pos h0, if_pos h0, h0, show (a : Int) + ((T : Int) + (R : Int) + 2) = (a : Int) + (2 + (T : Int) + (R : Int)) by omega]
    · unfold resL
      rw [if_pos h0, Int.toNat_natCast, Int.toNat_natCast, show ((T : Int) + (R : Int)).toNat = T + R by omega]
      exact h1
  · refine (refalloc_one p ws.length c top k t r w h0 hx).mono ?_
    rintro e w' ⟨rfl, h2⟩
    refine ⟨.slice p ws.length c, ?_, ?_, h2⟩
    · unfold resTop resAt
      rw [h0, if_neg (by decide), if_neg (by decide)]
    · unfold resL
      rw [h0, if_neg (by decide)]
      exact hr.keep h2
  · refine (refalloc_five p ws.length c top k t r w hn h0).mono ?_
    rintro e w' ⟨rfl, h2⟩
    refine ⟨.slice p ws.length c, ?_, ?_, h2⟩
    · unfold resTop resAt
      rw [h0, if_neg (by decide), if_neg (by decide)]
    · unfold resL
      rw [h0, if_neg (by decide)]
      exact hr.keep h2
def AnyPost (W : World) (B : Nat) (v : Value) (ws : List Int) (top k t r : Int) (e : Ending) (w' : World) : Prop :=
  e = .returned (.tuple #[.int .i64 (resAt ws top k t r), .int .i64 (allocErr ws.length top k t r)]) ∧ w'.cell? ⟨B, 0, none⟩ = some v ∧ w'.cell? ⟨B, 1, none⟩ = some (.int .i64 (resTop ws top k t r)) ∧ Rd w' v (resL ws top k t r) ∧ Below W.heap.size W w'
/-- The memory of an owned row reads as its words. -/
theorem own_rd {w : World} {B : Nat} {v : Value} {ws : List Int} (h : w.ownsRow B 29 1 v ws.length (ws.map (Value.int .u64))) (hm : ws.length ≤ 17592186043904) : Rd w v ws := by
  by_cases h0 : 0 < ws.length
  · obtain ⟨g, cap, rfl, hg, hc, hrow⟩ := row_own h h0
    refine .inr ⟨g, 0, cap, rfl, hc, hm, fun i hi => ?_⟩
    rw [Nat.zero_add]; exact hrow.cell hc hi
  · obtain rfl : ws = [] := List.length_eq_zero_iff.1 (by omega)
    rcases h.2 with ⟨rfl, h2⟩ | ⟨g, cap, cur, hv, hg, r1, r2, r3, r4, r5⟩
    · exact .inl ⟨none, rfl, rfl⟩
    · exact .inr ⟨g, 0, cap, hv, r2, hm, fun i hi => by simp at hi⟩
theorem alloc_any (W w0 : World) (v : Value) (ws : List Int) (top k t r : Int) (T : TypeId) (hW : Below W.heap.size W w0) (hown : w0.ownsRow W.heap.size 29 1 v ws.length (ws.map (Value.int .u64))) (hm : ws.length ≤ 17592186043904) (hx : -9223372036854775808 ≤ top ∧ top ≤ 9223372036854775807) :
    Calls Try.prog 25 #[.pointer (some ⟨w0.heap.size, 0, none⟩), .int .i64 k, .int .i64 t, .int .i64 r] (w0.alloc (Obj.cells #[v, .int .i64 top] T)) (AnyPost W w0.heap.size v ws top k t r) := by
  have hr := own_rd hown hm
  have hB : Below W.heap.size W (w0.alloc (Obj.cells #[v, .int .i64 top] T)) := hW.alloc hW.size _
  have c0 : (w0.alloc (Obj.cells #[v, .int .i64 top] T)).cell? ⟨w0.heap.size, 0, none⟩ = some v := by simp
  have c1 : (w0.alloc (Obj.cells #[v, .int .i64 top] T)).cell? ⟨w0.heap.size, 1, none⟩ = some (.int .i64 top) := by simp
  obtain ⟨p, c, rfl, hn⟩ := hr.bound
  have hr2 := hr.alloc (Obj.cells #[.slice p ws.length c, .int .i64 top] T)
  rcases err_cases ws.length top k t r with ⟨h0, ⟨b1, b2, b3, b4, b5, b6, b7, b8⟩, s1, s2⟩ | h0 | h0
  · obtain ⟨g, cap, hv, hg, hc, hrow⟩ := row_own hown (by omega)
    simp only [Value.slice.injEq] at hv
    obtain ⟨rfl, _, rfl⟩ := hv
    have hlt := hrow.lt
    have hma : MA (w0.alloc (Obj.cells #[.slice (some ⟨g, 0, none⟩) ws.length c, .int .i64 top] T)) w0.heap.size g ws.length c top (fun i => ws.getD i 0) :=
      ⟨by simp, by simp, by simp, hrow.block (Below.heap_alloc _ _ _ hlt), hc, hn, by omega⟩
    refine (alloc_good _ g ws.length c top _ k t r _ hma ⟨b1, b2, b3, b4, b5, b6, b7, b8⟩ ⟨s1, s2⟩).mono ?_
    rintro e w' ⟨rfl, hA⟩
    refine ⟨?_, hA.box0, ?_, ?_, hA.below hB hW.size hg⟩
    · unfold resAt; rw [if_pos h0, h0]
    · unfold resTop; rw [if_pos h0]; exact hA.box1
    · unfold resL; rw [if_pos h0]; exact rd_ofRow hA.row hc hn
  · refine (alloc_bad0 _ ws.length c p top k t r _ c0 c1 h0 hx).mono ?_
    rintro e w' ⟨rfl, q, rfl⟩
    refine ⟨?_, c0, ?_, ?_, below_drewN hB q⟩
    · unfold resAt; rw [h0, if_neg (by decide)]
    · unfold resTop; rw [h0, if_neg (by decide)]; exact c1
    · unfold resL; rw [h0, if_neg (by decide)]; exact hr2.keep (below_drewN (Below.refl _ _) q)
  · obtain ⟨h1, h2⟩ := err_five h0
    obtain ⟨g, cap, hv, hg, hc, hrow⟩ := row_own hown (by omega)
    simp only [Value.slice.injEq] at hv
    obtain ⟨rfl, _, rfl⟩ := hv
    have hlt := hrow.lt
    have hma : MA (w0.alloc (Obj.cells #[.slice (some ⟨g, 0, none⟩) ws.length c, .int .i64 top] T)) w0.heap.size g ws.length c top (fun i => ws.getD i 0) :=
      ⟨by simp, by simp, by simp, hrow.block (Below.heap_alloc _ _ _ hlt), hc, hn, by omega⟩
    refine (alloc_full _ g ws.length c top _ k t r _ hma h1 h2).mono ?_
    rintro e w' ⟨rfl, q, rfl⟩
    refine ⟨?_, c0, ?_, ?_, below_drewN hB q⟩
    · unfold resAt; rw [h0, if_neg (by decide)]
    · unfold resTop; rw [h0, if_neg (by decide)]; exact c1
    · unfold resL; rw [h0, if_neg (by decide)]; exact hr2.keep (below_drewN (Below.refl _ _) q)
end
end Go.Proofs.Ytilonacjmihglaa
