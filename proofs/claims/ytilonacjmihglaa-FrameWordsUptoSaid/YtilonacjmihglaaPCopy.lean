/- The contract of the document's Copy: new memory that reads alike. -/
import Derived.Test.YtilonacjmihglaaPGCheck
import Derived.OwnWalk
import Derived.Deep.RegionLaw
import Derived.Deep.RegionLawGrows
namespace Go.Proofs.Ytilonacjmihglaa
open Go.ChangeShapes Go.WideShapes Go.ChangeAt Go.RowKit
set_option linter.unusedVariables false
set_option linter.unusedSimpArgs false
theorem grown_same {w w' : World} (h : w.grownBy w' none) : (∀ b o, b < w.heap.size → w'.cell? ⟨b, o, none⟩ = w.cell? ⟨b, o, none⟩) ∧ (∀ b o, b < w.heap.size → w'.frozen? ⟨b, o, none⟩ = w.frozen? ⟨b, o, none⟩) :=
  ⟨fun b o hb => World.cell?_of_block (a := ⟨b, o, none⟩) (h.block b hb (by simp)), fun b o hb => World.frozen?_of_block (a := ⟨b, o, none⟩) (h.block b hb (by simp))⟩
def CopyPost (W : World) (ws : List Int) (top : Int) (e : Ending) (w' : World) : Prop := ∃ v', e = .returned (.agg #[v', .int .i64 top]) ∧ w'.ownsRow W.heap.size 29 1 v' ws.length (ws.map (Value.int .u64)) ∧ Below W.heap.size W w'
theorem two_set {w : World} {B : Nat} {x0 x1 y0 y1 : Value} (h0 : w.cell? ⟨B, 0, none⟩ = some y0) (h1 : w.cell? ⟨B, 1, none⟩ = some y1) :
    ((w.setCell ⟨B, 0, none⟩ x0).setCell ⟨B, 1, none⟩ x1).cell? ⟨B, 0, none⟩ = some x0 ∧ ((w.setCell ⟨B, 0, none⟩ x0).setCell ⟨B, 1, none⟩ x1).cell? ⟨B, 1, none⟩ = some x1 := by
  have n1 : (⟨B, 1, none⟩ : Addr) ≠ ⟨B, 0, none⟩ := by simp
  have n0 : (⟨B, 0, none⟩ : Addr) ≠ ⟨B, 1, none⟩ := by simp
  exact ⟨(World.cell?_setCell_other _ _ _ _ n1).trans (World.cell?_setCell_same _ _ _ h0), World.cell?_setCell_same _ _ _ ((World.cell?_setCell_other _ _ _ _ n0).trans h1)⟩
theorem owns_low {w : World} {B B' : Nat} {e : TypeId} {size : Nat} {v : Value} {n : Nat} {xs : List Value} (h : w.ownsRow B e size v n xs) (hB : B' ≤ B) : w.ownsRow B' e size v n xs := by
  obtain ⟨h1, h2⟩ := h
  refine ⟨h1, ?_⟩
  rcases h2 with h2 | ⟨g, cap, cur, hv, hg, r⟩
  · exact .inl h2
  · exact .inr ⟨g, cap, cur, hv, Nat.le_trans hB hg, r⟩
/-- What is left of a copy: the copied row and the result's own box. -/
theorem copy_end {w W3 w1 : World} {ws : List Int} {top : Int} {v' x0 x1 : Value} (hW : Below w.heap.size w W3) (hs : w.heap.size + 1 < W3.heap.size) (hown : w1.ownsRow W3.heap.size 29 1 v' (0 + ws.length) ([] ++ ws.map (Value.int .u64))) (hg : W3.grownBy w1 none) :
    CopyPost w ws top (.returned (.agg #[v', .int .i64 top])) ((w1.setCell ⟨w.heap.size + 1, 0, none⟩ x0).setCell ⟨w.heap.size + 1, 1, none⟩ x1) := by
  rw [Nat.zero_add, List.nil_append] at hown
  refine ⟨v', rfl, owns_low (ownsRow_setCell_below (ownsRow_setCell_below hown (by simpa using hs) _) (by simpa using hs) _) (Nat.le_of_lt (Nat.lt_of_le_of_lt (Nat.le_add_right _ 1) hs)), ?_⟩
  exact ((hW.grown hg hW.size (fun k hk => by cases hk)).setCell (by simp) _).setCell (by simp) _
theorem own_form {w : World} {B : Nat} {e : TypeId} {v : Value} {n m : Nat} {xs : List Value} (h : w.ownsRow B e 1 v n xs) (hm : n = m) (h0 : 0 < m) : ∃ g cap, v = .slice (some ⟨g, 0, none⟩) m cap := by
  rcases h.2 with ⟨rfl, h2⟩ | ⟨g, cap, cur, rfl, _⟩
  · omega
  · exact ⟨g, cap, by rw [hm]⟩
set_option maxRecDepth 100000 in
set_option maxHeartbeats 1000000 in
theorem copy13 (v : Value) (ws : List Int) (top : Int) (w : World) (hr : Rd w v ws) (hl0 : 0 < ws.length) :
    Calls Try.prog 7 #[.agg #[v, .int .i64 top]] w (CopyPost w ws top) := by
  obtain ⟨i0, hi, hz0, hz1, hz2⟩ := info_parts infoU64
  obtain ⟨b, off, c, rfl, hl, hc, hcell⟩ := hr.some hl0
  have hN : ∀ j u, (ws.map (Value.int .u64))[j]? = some u → ∀ o1 o2 o3, (((w.alloc o1).alloc o2).alloc o3).cell? ((⟨b, off, none⟩ : Addr).add j) = some u := fun j u hj o1 o2 o3 => by
    have hj' : j < ws.length := by
      rw [List.getElem?_eq_some_iff] at hj
      simpa using hj.1
    have := alloc_cell (alloc_cell (alloc_cell (hcell j hj') o1) o2) o3
    rw [show (⟨b, off, none⟩ : Addr).add j = ⟨b, off + j, none⟩ by unfold Addr.add; split <;> simp_all, this]
    rw [List.getElem?_map, List.getElem?_eq_getElem hj'] at hj
    simp only [Option.map_some, Option.some.injEq] at hj
    rw [← hj, List.getD_eq_getElem?_getD, List.getElem?_eq_getElem hj']
    rfl
  have HN := Lib.hid hN
  clear hcell hr hN
  go_enter Try.func7, Try.ntmps7
  go_wp2_with fail
  go_region_law (refine step_append_grows rfl _ _ _ rfl 29 i0 (.int .u64 0) 1 8 Try.underlying22 hi hz0 hz1 hz2 rfl (by omega) (some ⟨w.heap.size + 1 + 1, 0, none⟩) 0 0 [] rfl (by simp) rfl (by simp) ⟨b, off, none⟩ ws.length c (ws.map (Value.int .u64)) rfl (by simp) (fun j u hj => HN.out j u hj _ _ _) (by simp [Value.oneCell']) (by omega) (by unfold maxLen; omega) (by omega) ?_; intro v' w1 hown1 hgrow; obtain ⟨hc1, hf1⟩ := grown_same hgrow; have hs1 := hgrow.size; obtain ⟨g', cap', rfl⟩ := own_form hown1 (Nat.zero_add _) hl0)
  all_goals go_wp2_with fail
  all_goals have z0 : w1.cell? ⟨w.heap.size + 1, 0, none⟩ = some (.slice none 0 0) := by rw [hc1 _ _ (by simp)]; exact alloc_cell (by simp) _
  all_goals have z1 : w1.cell? ⟨w.heap.size + 1, 1, none⟩ = some (.int .i64 0) := by rw [hc1 _ _ (by simp)]; exact alloc_cell (by simp) _
  all_goals have z2 := two_set (x0 := .slice (some ⟨g', 0, none⟩) ws.length cap') (x1 := .int .i64 top) z0 z1
  all_goals refine bodyPost_ret (v := .agg #[.slice (some ⟨g', 0, none⟩) ws.length cap', .int .i64 top]) (by simp [results, Try.results7, go_sem, z2.1, z2.2]) rfl ?_
  all_goals exact copy_end ((((Below.refl _ _).alloc (Nat.le_refl _) _).alloc (by simp) _).alloc (by simp; omega) _).drew (by simp) hown1 hgrow
set_option maxRecDepth 100000 in
set_option maxHeartbeats 1000000 in
theorem copy13_nil (p : Option Addr) (c : Nat) (top : Int) (w : World) (hp : p = none → c = 0) :
    Calls Try.prog 7 #[.agg #[.slice p 0 c, .int .i64 top]] w (CopyPost w [] top) := by
  obtain ⟨i0, hi, hz0, hz1, hz2⟩ := info_parts infoU64
  cases p with
  | none =>
    obtain rfl := hp rfl
    go_enter Try.func7, Try.ntmps7
    go_wp2_with fail
    go_region
    go_wp2_with fail
    refine bodyPost_ret (v := .agg #[.slice (some ⟨w.heap.size + 1 + 1, 0, none⟩) 0 0, .int .i64 top]) (by simp [results, Try.results7, go_sem]) rfl ?_
    refine ⟨_, rfl, ?_, ?_⟩
    · have := World.ownsRow_made (base := w.heap.size) (e := 29) (size := 1) ((w.alloc (Obj.cells #[Value.slice none 0 0, Value.int .i64 top] 24)).alloc (Obj.cells #[Value.slice (some ⟨w.heap.size + 1 + 1, 0, none⟩) 0 0, Value.int .i64 top] 24)) #[] 0 (by simp; omega) (by unfold maxLen; omega) (by simp)
      have := this.drew
      simpa using this
    · exact ((((Below.refl _ _).alloc (Nat.le_refl _) _).alloc (by simp) _).alloc (by simp; omega) _).drew
  | some a =>
    clear hp
    go_enter Try.func7, Try.ntmps7
    go_wp2_with fail
    go_region
    go_wp2_with fail
    refine bodyPost_ret (v := .agg #[.slice (some ⟨w.heap.size + 1 + 1, 0, none⟩) 0 0, .int .i64 top]) (by simp [results, Try.results7, go_sem]) rfl ?_
    refine ⟨_, rfl, ?_, ?_⟩
    · have := World.ownsRow_made (base := w.heap.size) (e := 29) (size := 1) ((w.alloc (Obj.cells #[Value.slice (some a) 0 c, Value.int .i64 top] 24)).alloc (Obj.cells #[Value.slice (some ⟨w.heap.size + 1 + 1, 0, none⟩) 0 0, Value.int .i64 top] 24)) #[] 0 (by simp; omega) (by unfold maxLen; omega) (by simp)
      have := this.drew
      simpa using this
    · exact ((((Below.refl _ _).alloc (Nat.le_refl _) _).alloc (by simp) _).alloc (by simp; omega) _).drew
theorem copy13_any (v : Value) (ws : List Int) (top : Int) (w : World) (hr : Rd w v ws) :
    Calls Try.prog 7 #[.agg #[v, .int .i64 top]] w (CopyPost w ws top) := by
  by_cases h0 : 0 < ws.length
  · exact copy13 v ws top w hr h0
  · rcases hr with ⟨p0, rfl, rfl⟩ | ⟨b, off, c, rfl, hl, hc, hcell⟩
    · exact copy13_nil p0 0 top w (fun _ => rfl)
    · obtain rfl : ws = [] := List.length_eq_zero_iff.1 (by omega)
      exact copy13_nil _ c top w (fun h => by cases h)
end Go.Proofs.Ytilonacjmihglaa
