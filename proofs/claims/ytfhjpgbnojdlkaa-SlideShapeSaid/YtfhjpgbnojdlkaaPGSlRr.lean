/- Layer 14: slices.Sort over a row of ints of the call's own; a merge-like walk through the sorted ones. Layer 14: rightRoots. -/
import Derived.Test.YtfhjpgbnojdlkaaShelfS
import Derived.Sort.OwnSortedInts
import Derived.Test.YtfhjpgbnojdlkaaPGSlP
import Derived.Test.YtfhjpgbnojdlkaaPGSlDn
import Derived.Test.YtfhjpgbnojdlkaaPApp
import Derived.Stop.RegionWithIn
namespace Go.Proofs.Ytfhjpgbnojdlkaa
section
open Go Go.Sort Go.RowKit
set_option linter.unusedVariables false
set_option linter.unusedSimpArgs false
def srt (xs : List Int) : List Int := xs.mergeSort fun x y => decide (x ≤ y)
theorem srt_len (xs : List Int) : (srt xs).length = xs.length := List.length_mergeSort _
theorem srt_mem {xs : List Int} {x : Int} : x ∈ srt xs ↔ x ∈ xs := (List.mergeSort_perm xs _).mem_iff
theorem srt_up (xs : List Int) : (srt xs).Pairwise (· ≤ ·) :=
  (List.pairwise_mergeSort (le := fun x y => decide (x ≤ y)) (by intro a b c h1 h2; simp only [decide_eq_true_eq] at *; omega) (by intro a b; simp only [Bool.or_eq_true, decide_eq_true_eq]; omega) xs).imp (by intro a b h; simpa using h)
theorem sort_own {w : World} {B n : Nat} {v : Value} {xs : List Int} (h : w.ownsRow B 3 1 v n (xs.map (Value.int .i64))) (hn : n < 4611686018427387904) (hB : B ≤ w.heap.size) :
    Calls Try.prog 86 #[v] w fun e w' => e = .returned (.tuple #[]) ∧ w'.ownsRow B 3 1 v n ((srt xs).map (Value.int .i64)) ∧ Below B w w' := by
  have hl : xs.length = n := by simpa using h.1
  rcases h.2 with ⟨rfl, h0⟩ | ⟨g, cap, cur, rfl, hb, hg, hnc, hm, hs, ht⟩
  · subst h0
    obtain rfl : xs = [] := List.eq_nil_of_length_eq_zero hl
    refine (Try.slices_Sort_int_none none 0 w).mono ?_
    rintro e w' ⟨rfl, rfl⟩
    exact ⟨rfl, by simpa [srt] using h, Below.refl _ _⟩
  · have hgl : g < w.heap.size := (Array.getElem?_eq_some_iff.1 hg).1
    subst hl
    have hH : Holds (Value.int .i64) w g 0 xs.toArray := fun j hj => by
      have hj' : j < xs.length := by simpa using hj
      refine ⟨?_, by simp [World.frozen?, hg]⟩
      have e1 : (cur.toList.take (xs.length * 1))[j]? = (xs.map (Value.int .i64))[j]? := by rw [ht]
      rw [List.getElem?_take, if_pos (by omega), Array.getElem?_toList, List.getElem?_map, List.getElem?_eq_getElem hj'] at e1
      simp only [World.cell?, hg, Nat.zero_add]
      simp only [Option.isSome_none, Bool.false_eq_true, if_false]
      rw [e1]
      simp [hj']
    refine (Try.slices_Sort_int g 0 cap xs w hH hgl hn).mono ?_
    rintro e w' ⟨rfl, k, os, rfl⟩
    exact ⟨rfl, ownsRow_sortedI (ts := srt xs) (srt_len xs) hb hg hnc hm hs, (Below.refl _ _).grown (grownBy_sortedI _) hB (fun q hq => by cases hq; exact hb)⟩
/-- Where the walk through the sorted ones stands, k objects passed: those ahead of i are objects; the i-th isn't one of the objects passed. -/
structure Wk (l : List Nat) (s : List Int) (k i : Nat) : Prop where
  le : i ≤ s.length
  lo : ∀ j, j < i → ∃ a ∈ l, s.getD j 0 = (a : Nat)
  hi : i < s.length → ∀ j, j < k → s.getD i 0 ≠ (l.getD j 0 : Nat)
theorem Wk.start (l : List Nat) (s : List Int) : Wk l s 0 0 := ⟨Nat.zero_le _, fun j h => absurd h (Nat.not_lt_zero _), fun _ j h => absurd h (Nat.not_lt_zero _)⟩
theorem Wk.more {l : List Nat} {s : List Int} {k i : Nat} (h : Wk l s k i) (hl : l.Pairwise (· < ·)) (hs : s.Pairwise (· ≤ ·)) (hk : k < l.length) (hi : i < s.length) (he : s.getD i 0 = (l.getD k 0 : Nat)) : Wk l s k (i + 1) := by
  refine ⟨hi, fun j hj => ?_, fun hi2 j hj e => ?_⟩
  · rcases Nat.lt_or_ge j i with h' | h'
    · exact h.lo j h'
    · obtain rfl : j = i := by omega
      exact ⟨_, mem_getD hk, he⟩
  · have h1 := rising_lt hl hj hk
    have h2 : s.getD i 0 ≤ s.getD (i + 1) 0 := by
      have := List.pairwise_iff_getElem.1 hs i (i + 1) hi hi2 (Nat.lt_succ_self i)
      simpa [List.getD_eq_getElem?_getD, hi, hi2] using this
    omega
theorem Wk.next {l : List Nat} {s : List Int} {k i : Nat} (h : Wk l s k i) (hn : i < s.length → s.getD i 0 ≠ (l.getD k 0 : Nat)) : Wk l s (k + 1) i :=
  ⟨h.le, h.lo, fun hi j hj => by
    rcases Nat.lt_or_ge j k with h' | h'
    · exact h.hi hi j h'
    · obtain rfl : j = k := by omega
      exact hn hi⟩
theorem Wk.done {l : List Nat} {s : List Int} {i : Nat} (h : Wk l s l.length i) : decide (i = s.length) = s.all fun x => decide (0 ≤ x ∧ x.toNat ∈ l) := by
  rw [Bool.eq_iff_iff, decide_eq_true_eq, List.all_eq_true]
  constructor
  · rintro rfl x hx
    obtain ⟨j, hj, rfl⟩ := List.getElem_of_mem hx
    obtain ⟨a, ha, e⟩ := h.lo j hj
    have e2 : s[j] = (a : Int) := by simpa [List.getD_eq_getElem?_getD, hj] using e
    rw [e2]
    simpa using ha
  · intro hall
    rcases Nat.lt_or_ge i s.length with hi | hi
    · exfalso
      have h1 := hall _ (List.getElem_mem hi)
      simp only [decide_eq_true_eq] at h1
      obtain ⟨j, hj, e⟩ := getD_of_mem h1.2
      refine h.hi hi j hj ?_
      have : s.getD i 0 = s[i] := by simp [List.getD_eq_getElem?_getD, hi]
      rw [this, e]; omega
    · have := h.le; omega
/-- The addresses among words. -/
def askL (rs : List Int) : List Int := (rs.filter fun x => decide (kindOf x = 0)).map (· / 4)
theorem askL_take {rs : List Int} {k : Nat} (hk : k < rs.length) : askL (rs.take (k + 1)) = askL (rs.take k) ++ if kindOf (rs.getD k 0) = 0 then [rs.getD k 0 / 4] else [] := by
  have : rs.take (k + 1) = rs.take k ++ [rs.getD k 0] := by rw [List.take_add_one, List.getD_eq_getElem?_getD, List.getElem?_eq_getElem hk]; rfl
  unfold askL
  rw [this, List.filter_append, List.map_append]
  congr 1
  by_cases h : kindOf (rs.getD k 0) = 0
  · rw [if_pos h, List.filter_cons_of_pos (by simpa using h)]; rfl
  · rw [if_neg h, List.filter_cons_of_neg (by simpa using h)]; rfl
theorem askL_len (rs : List Int) (k : Nat) : (askL (rs.take k)).length ≤ k := by
  unfold askL
  rw [List.length_map]
  exact Nat.le_trans (List.length_filter_le _ _) (by rw [List.length_take]; omega)
theorem ask_all {l : List Nat} {rs : List Int} (h3 : ∀ j, j < rs.length → kindOf (rs.getD j 0) ≠ 3) : ((srt (askL rs)).all fun x => decide (0 ≤ x ∧ x.toNat ∈ l)) = rs.all (rightW l) := by
  rw [Bool.eq_iff_iff, List.all_eq_true, List.all_eq_true]
  have hk3 : ∀ x ∈ rs, kindOf x ≠ 3 := fun x hx => by
    obtain ⟨j, hj, rfl⟩ := List.getElem_of_mem hx
    have := h3 j hj
    rwa [List.getD_eq_getElem?_getD, List.getElem?_eq_getElem hj] at this
  constructor
  · intro h x hx
    unfold rightW
    simp only [Bool.and_eq_true, Bool.or_eq_true, Bool.not_eq_true', decide_eq_false_iff_not, decide_eq_true_eq]
    refine ⟨hk3 x hx, ?_⟩
    by_cases h0 : kindOf x = 0
    · right
      have := h (x / 4) (srt_mem.2 (List.mem_map.2 ⟨x, List.mem_filter.2 ⟨hx, by simpa using h0⟩, rfl⟩))
      simp only [decide_eq_true_eq] at this
      exact this.2
    · exact .inl h0
  · intro h y hy
    obtain ⟨x, hx, rfl⟩ := List.mem_map.1 (srt_mem.1 hy)
    obtain ⟨hx, h0⟩ := List.mem_filter.1 hx
    have h0 : kindOf x = 0 := by simpa using h0
    have := h x hx
    unfold rightW at this
    simp only [Bool.and_eq_true, Bool.or_eq_true, Bool.not_eq_true', decide_eq_false_iff_not, decide_eq_true_eq] at this
    have hkn := kind_nat h0
    simp only [decide_eq_true_eq]
    exact ⟨by omega, this.2.resolve_left (fun g => g h0)⟩
end
section
open Go Go.ChangeShapes Go.WideShapes Go.ChangeAt Go.RowKit
set_option linter.unusedVariables false
set_option linter.unusedSimpArgs false
attribute [local go_sem] Oper.semAt_some
/-- While the addresses are gathered. -/
structure RJ (w : World) (v : Value) (tn : Nat) (ys : List Int) (wr : World) : Prop where
  m0 : wr.cell? ⟨w.heap.size, 0, none⟩ = some v
  m1 : wr.cell? ⟨w.heap.size, 1, none⟩ = some (.int .i64 tn)
  z : wr.frozen? ⟨w.heap.size + 1, 0, none⟩ = false
  ex : ∃ u, wr.cell? ⟨w.heap.size + 1, 0, none⟩ = some u ∧ wr.ownsRow (w.heap.size + 2) 3 1 u ys.length (ys.map (Value.int .i64))
  bel : Below w.heap.size w wr
  sz : w.heap.size + 2 ≤ wr.heap.size
theorem RJ.keep {w wr w1 : World} {v : Value} {tn : Nat} {ys : List Int} (h : RJ w v tn ys wr) (hb : Below wr.heap.size wr w1) : RJ w v tn ys w1 := by
  obtain ⟨u, h1, h2⟩ := h.ex
  have hs := h.sz
  refine ⟨below_cell hb h.m0, below_cell hb h.m1, ?_, ⟨u, below_cell hb h1, h2.kept (row := none) ⟨hb.os, hb.tape, hb.output, hb.size, fun k hk _ => hb.block k hk⟩ (by cases u.ownBlock <;> simp)⟩, h.bel.trans (hb.mono h.bel.size), Nat.le_trans hs hb.size⟩
  have := hb.block (w.heap.size + 1) (by omega)
  have h3 := h.z
  unfold World.frozen? at h3 ⊢
  rwa [this]
theorem RJ.app {w wr w2 : World} {v u u' : Value} {tn : Nat} {ys : List Int} {b : Int} {o : Obj} (h : RJ w v tn ys wr) (hu : wr.cell? ⟨w.heap.size + 1, 0, none⟩ = some u) (hown : wr.ownsRow (w.heap.size + 2) 3 1 u ys.length (ys.map (Value.int .i64)))
    (hap : Apd (wr.alloc o) w2 (w.heap.size + 2) 3 u u' (ys.length + 1) (ys.map (Value.int .i64) ++ [.int .i64 b])) :
    w2.cell? ⟨w.heap.size + 1, 0, none⟩ = some u ∧ w2.frozen? ⟨w.heap.size + 1, 0, none⟩ = false ∧ RJ w v tn (ys ++ [b]) (w2.setCell ⟨w.heap.size + 1, 0, none⟩ u') ∧ ∃ p n c, u' = .slice p n c := by
  have hl := hown.lt
  have hs := h.sz
  have hg := hap.grown
  have hne : ∀ x, x < w.heap.size + 2 → some x ≠ u.ownBlock := fun x hx e => by have := (hl x e.symm).1; omega
  have hbk : ∀ x, x < w.heap.size + 2 → w2.heap[x]? = wr.heap[x]? := fun x hx => (hg.block x (by simp; omega) (hne x hx)).trans (Below.heap_alloc _ _ _ (by omega))
  have c2 : w2.cell? ⟨w.heap.size + 1, 0, none⟩ = some u := (World.cell?_of_block (a := ⟨w.heap.size + 1, 0, none⟩) (hbk _ (by dsimp only; omega))).trans hu
  have z2 : w2.frozen? ⟨w.heap.size + 1, 0, none⟩ = false := by
    have h3 := h.z
    unfold World.frozen? at h3 ⊢
    rwa [hbk _ (by dsimp only; omega)]
  have hsz : w.heap.size + 2 ≤ w2.heap.size := by have := hg.size; simp at this; omega
  have hset : ∀ x, x ≠ w.heap.size + 1 → (w2.setCell ⟨w.heap.size + 1, 0, none⟩ u').heap[x]? = w2.heap[x]? := fun x hx => Below.heap_setCell _ _ _ x hx
  refine ⟨c2, z2, ⟨?_, ?_, ?_, ⟨u', World.cell?_setCell_same _ _ _ c2, ?_⟩, ?_, ?_⟩, ?_⟩
  · exact (World.cell?_of_block (a := ⟨w.heap.size, 0, none⟩) ((hset _ (by dsimp only; omega)).trans (hbk _ (by dsimp only; omega)))).trans h.m0
  · exact (World.cell?_of_block (a := ⟨w.heap.size, 1, none⟩) ((hset _ (by dsimp only; omega)).trans (hbk _ (by dsimp only; omega)))).trans h.m1
  · rw [World.frozen?_setCell]; exact z2
  · have := ownsRow_setCell_below hap.own (a := ⟨w.heap.size + 1, 0, none⟩) (by dsimp only; omega) u'
    simpa using this
  · have q : Below w.heap.size (wr.alloc o) w2 := hap.below (B := w.heap.size) (by simp; omega) (fun g hg => by have := (hl g hg).1; omega)
    have q2 : Below w.heap.size w2 (w2.setCell ⟨w.heap.size + 1, 0, none⟩ u') := ⟨rfl, rfl, rfl, (KeepsWalks.setCell _ _ _).size, fun x hx => hset x (by omega)⟩
    exact ((h.bel.alloc (by omega) o).trans q).trans q2
  · exact Nat.le_trans hsz (KeepsWalks.setCell _ _ _).size
  · rcases hap.own.2 with ⟨e, _⟩ | ⟨g, cap, cur, e, _⟩
    · exact ⟨_, _, _, e⟩
    · exact ⟨_, _, _, e⟩
theorem RJ.sort {w wr w2 : World} {v u : Value} {tn : Nat} {ys : List Int} (h : RJ w v tn ys wr) (hu : wr.cell? ⟨w.heap.size + 1, 0, none⟩ = some u) (hb : Below (w.heap.size + 2) wr w2) (hown : w2.ownsRow (w.heap.size + 2) 3 1 u ys.length ((srt ys).map (Value.int .i64))) :
    RJ w v tn (srt ys) w2 ∧ w2.cell? ⟨w.heap.size + 1, 0, none⟩ = some u := by
  have hs := h.sz
  have hc : w2.cell? ⟨w.heap.size + 1, 0, none⟩ = some u := (World.cell?_of_block (a := ⟨w.heap.size + 1, 0, none⟩) (hb.block _ (by dsimp only; omega))).trans hu
  refine ⟨⟨(World.cell?_of_block (a := ⟨w.heap.size, 0, none⟩) (hb.block _ (by dsimp only; omega))).trans h.m0, (World.cell?_of_block (a := ⟨w.heap.size, 1, none⟩) (hb.block _ (by dsimp only; omega))).trans h.m1, ?_, ⟨u, hc, by rw [srt_len]; exact hown⟩, h.bel.trans ⟨hb.os, hb.tape, hb.output, hb.size, fun k hk => hb.block k (by omega)⟩, Nat.le_trans hs hb.size⟩, hc⟩
  have h3 := h.z
  unfold World.frozen? at h3 ⊢
  rwa [hb.block _ (by dsimp only; omega)]
/-- While the objects are gone through: the number of sorted ones that were passed lies in block bi. -/
structure QJ (WL : World) (bi i : Nat) (A : World) : Prop where
  kw : Kw (fun b => b ≠ bi ∧ b < WL.heap.size) WL A
  ci : A.cell? ⟨bi, 0, none⟩ = some (.int .i64 i)
  fi : A.frozen? ⟨bi, 0, none⟩ = false
theorem QJ.kw' {WL A B : World} {bi i : Nat} (h : QJ WL bi i A) {K : Nat → Prop} (hk : Kw K A B) (hK : ∀ b, b < WL.heap.size → K b) (hbi : bi < WL.heap.size) : QJ WL bi i B := by
  have hs := h.kw.size
  refine ⟨h.kw.trans (hk.mono fun b hb _ => hK b hb.2), (World.cell?_of_block (a := ⟨bi, 0, none⟩) (hk.block _ (hK _ hbi) (by dsimp only; omega))).trans h.ci, ?_⟩
  have h3 := h.fi
  unfold World.frozen? at h3 ⊢
  rwa [hk.block _ (hK _ hbi) (by omega)]
theorem QJ.set {WL A : World} {bi i : Nat} (h : QJ WL bi i A) (j : Nat) : QJ WL bi j (A.setCell ⟨bi, 0, none⟩ (.int .i64 j)) :=
  ⟨h.kw.setCell _ _ (fun g => g.1 rfl), World.cell?_setCell_same _ _ _ h.ci, by rw [World.frozen?_setCell]; exact h.fi⟩
theorem QJ.cell {WL A : World} {bi i : Nat} (h : QJ WL bi i A) {a : Addr} {x : Value} (hc : WL.cell? a = some x) (hn : a.block ≠ bi) : A.cell? a = some x :=
  (World.cell?_of_block (h.kw.block _ ⟨hn, World.block_lt_of_cell? WL _ hc⟩ (World.block_lt_of_cell? WL _ hc))).trans hc
theorem QJ.below {w WL A : World} {bi i : Nat} (h : QJ WL bi i A) (hb : Below w.heap.size w WL) (hi : w.heap.size ≤ bi) : Below w.heap.size w A :=
  hb.trans (h.kw.below hb.size fun b hb2 => ⟨by omega, by have := hb.size; omega⟩)
theorem rr_w {i n y r : Nat} (h : i < n) (h1 : n = y) (h2 : y ≤ r) (h3 : r ≤ 17592186043904) : wrap64 ((i : Int) + 1) = ((i + 1 : Nat) : Int) := by unfold wrap64; omega
theorem rr_meas {i n : Nat} (h : i < n) : n - (intOf (((some (Value.int .i64 ((i + 1 : Nat) : Int)))).getD undef)).toNat < n - (intOf ((some (Value.int .i64 (i : Int))).getD undef)).toNat := by
  simp only [Option.getD_some, intOf, Int.toNat_natCast]; omega
theorem rr_k {S bi b E : Nat} (hbi : bi < S) (h : RoundK S (fun b => b < S ∧ ¬ b = bi) E b) : b ≠ bi := by
  rcases h with h | h | h | h
  · omega
  · omega
  · exact h.2
  · omega
set_option maxRecDepth 100000 in
set_option maxHeartbeats 4000000 in
theorem rroots_any {ws : List Int} {tn : Nat} {l : List Nat} (ho : Ob ws tn l) (v : Value) (w : World) (hr : Rd w v ws) (rv : Value) (rs : List Int) (hrr : Rd w rv rs) (hfr : Fit rs) :
    Calls Try.prog 42 #[.agg #[v, .int .i64 tn], rv] w fun e w' => e = .returned (.bool (rs.all (rightW l))) ∧ Below w.heap.size w w' := by
  obtain ⟨i0, hi, hz0, hz1, hz2⟩ := info_parts infoI64
  have HO := Lib.hid ho
  have HR := Lib.hid hr
  have HRR := Lib.hid hrr
  have HFR := Lib.hid hfr
  obtain ⟨pr, cr, rfl, hmr⟩ := rd_form0 hrr
  obtain ⟨pv, cv, rfl, hmv⟩ := rd_form0 hr
  clear ho hr hrr hfr
  refine calls_of_marks Try.func42 rfl ?_
  simp only [Try.ntmps42, List.size_toArray, List.length_cons, List.length_nil, Nat.reduceAdd, Nat.reduceSub, Array.replicate_succ, Array.replicate_zero, List.push_toArray, List.append_toArray, List.nil_append, List.cons_append]
  go_wp2_with fail
  generalize hw1 : World.alloc (World.alloc w _) _ = w1
  have HJ0 := Lib.hid (show RJ w (.slice pv ws.length cv) tn (askL (rs.take 0)) w1 by
    rw [← hw1]
    refine ⟨alloc_cell (by simp) _, alloc_cell (by simp) _, by simp, ⟨.slice none 0 0, by simp, World.ownsRow_nil _ _ _ _⟩, ((Below.refl _ _).alloc (Nat.le_refl _) _).alloc (by simp) _, by simp⟩)
  clear hw1
  go_loopw [7, 8, 9, 14] (fun _ _ _ s wr => ∃ k : Nat, s = .int .i64 k ∧ k ≤ rs.length ∧ (∀ j, j < k → kindOf (rs.getD j 0) ≠ 3) ∧ RJ w (.slice pv ws.length cv) tn (askL (rs.take k)) wr) (fun _ _ _ s _ => rs.length - (intOf s).toNat)
  case atStart => exact ⟨0, by go_num, Nat.zero_le _, fun j hj => absurd hj (Nat.not_lt_zero _), HJ0.out⟩
  case round =>
    obtain ⟨k, rfl, hk, hk3, hrj⟩ := hrel
    have HK3 := Lib.hid hk3
    have HRJ := Lib.hid hrj
    have y0 := hrj.m0
    have y1 := hrj.m1
    have z2 := hrj.z
    obtain ⟨u, y2, hown⟩ := hrj.ex
    have HOWN := Lib.hid hown
    clear hk3 hrj hown
    by_cases hlt : k < rs.length
    · have hlz : (k : Int) < (rs.length : Int) := Int.ofNat_lt.2 hlt
      obtain ⟨b0, off, c2, hv, hcc, hmm, hcell⟩ := (HRR.out.keep HRJ.out.bel).some (Nat.lt_of_le_of_lt (Nat.zero_le _) hlt)
      cases hv
      have hck := hcell k hlt
      have hxb := HFR.out k
      clear hcell hcc hmm
      obtain ⟨x, hx⟩ : ∃ x, rs.getD k 0 = x := ⟨_, rfl⟩
      have HXX := Lib.hid hx
      rw [hx] at hck hxb
      have hwf := wfu_mk hxb
      clear hx
      by_cases hk3 : kindOf x = 3
      · have HE := Lib.hid (show false = rs.all (rightW l) by
          symm
          rw [List.all_eq_false]
          refine ⟨x, by rw [← HXX.out]; exact getD_mem hlt, ?_⟩
          simp [rightW, hk3])
        clear hxb
        go_wp2_with (go_at_call 85; (with_reducible refine (kind_any x hwf _).mono ?_); rintro e w9 ⟨rfl, rfl⟩; rw [hk3])
        refine leaves_marks (S := w.heap.size) _ _ ⟨[], rfl, by simp, fun D hm => by simp at hm⟩ ?_
        intro W' hkw
        exact ⟨_, results_tmp rfl _ _ _, (by rw [← HE.out]; rfl), hkw.below (by have := HRJ.out.bel.size; omega) (fun b hb => .inl hb) |> fun q => HRJ.out.bel.trans (q.mono (Nat.le_refl _))⟩
      · have HYES := Lib.hid (show ∀ j, j < k + 1 → kindOf (rs.getD j 0) ≠ 3 from fun j hj => by
          rcases Nat.lt_or_ge j k with h' | h'
          · exact HK3.out j h'
          · obtain rfl : j = k := by omega
            rw [HXX.out]; exact hk3)
        have HTK := Lib.hid (askL_take hlt)
        by_cases hk0 : kindOf x = 0
        · have hkn := kind_nat hk0
          obtain ⟨b, hb⟩ : ∃ b : Nat, x / 4 = (b : Int) := ⟨(x / 4).toNat, by omega⟩
          have e1 : atV x = (b : Int) := by unfold atV; rw [if_pos hk0, hb]
          have e2 : atE x = 0 := by unfold atE; rw [if_pos hk0]
          have HTK2 := Lib.hid (show askL (rs.take (k + 1)) = askL (rs.take k) ++ [(b : Int)] by
            rw [HTK.out, HXX.out, if_pos hk0, hb])
          have HLN := Lib.hid (askL_len rs k)
          clear hk3 hkn hb hxb HTK
          generalize askL (rs.take k) = ys at *
          go_wp2_with (first | (go_at_call 85; (with_reducible refine (kind_any x hwf _).mono ?_); rintro e w9 ⟨rfl, rfl⟩; rw [hk0]) | (go_at_call 52; (with_reducible refine (at_any x hwf _).mono ?_); rintro e w9 ⟨rfl, rfl⟩; rw [e1, e2]) | (with_reducible refine wpList_app (t := 26) (e := 3) (z := .int .i64 0) (bytes := 8) (base := w.heap.size + 2) (n := ys.length) (m := 1) (xs := ys.map (Value.int .i64)) (news := [.int .i64 (b : Int)]) (v := u) (x := .slice (some ⟨wr.heap.size, 0, none⟩) 1 1) rfl (.tmp 29) (.tmp 31) rfl Try.underlying26 infoI64 rfl rfl (HOWN.out.alloc _) rfl (src_top (cs := #[.int .i64 (b : Int)]) rfl) (by simp [Value.oneCell']) (by have := HLN.out; unfold maxLen; omega) (by have := HLN.out; omega) (by have := HRJ.out.sz; simp; omega) ?_; intro u' w2 hap; obtain ⟨y2', z2', hrj2, pu, nu, cu, rfl⟩ := RJ.app HRJ.out y2 HOWN.out hap; have HRJ2 := Lib.hid hrj2; clear hap hrj2 y2 z2 y0 y1))
          go_roundw
          case rel => exact ⟨k + 1, by go_num, hlt, HYES.out, by rw [HTK2.out]; exact HRJ2.out⟩
          case measure => exact mk_meas hlt
        · have k0 : (kindOf x == 0) = false := by simpa using hk0
          have k3 : (kindOf x == 3) = false := by simpa using hk3
          have HTK2 := Lib.hid (show askL (rs.take (k + 1)) = askL (rs.take k) by
            rw [HTK.out, HXX.out, if_neg hk0, List.append_nil])
          clear hxb
          go_wp2_with (first | (go_at_call 85; (with_reducible refine (kind_any x hwf _).mono ?_); rintro e w9 ⟨rfl, rfl⟩))
          go_roundw
          case rel => exact ⟨k + 1, by go_num, hlt, HYES.out, by rw [HTK2.out]; exact HRJ.out⟩
          case measure => exact mk_meas hlt
    · have hke : k = rs.length := Nat.le_antisymm hk (Nat.not_lt.1 hlt)
      subst hke
      have hlz : ¬ (rs.length : Int) < (rs.length : Int) := Int.lt_irrefl _
      rw [List.take_length] at HRJ HOWN
      have HE := Lib.hid (ask_all (l := l) HK3.out)
      have hlen := askL_len rs rs.length
      rw [List.take_length] at hlen
      clear HK3 hk y0 y1 z2
      generalize hys : askL rs = ys at *
      go_wp2_with fail
      refine (sort_own HOWN.out (by omega) HRJ.out.sz).mono ?_
      rintro e w2 ⟨rfl, hown2, hb2⟩
      obtain ⟨hrj2, y2'⟩ := HRJ.out.sort y2 hb2 hown2
      have HRJ2 := Lib.hid hrj2
      have HOWN2 := Lib.hid hown2
      have y0 := hrj2.m0
      have y1 := hrj2.m1
      clear hb2 hown2 hrj2 y2
      have HSL := Lib.hid (srt_len ys)
      have HSU := Lib.hid (srt_up ys)
      generalize hsy : srt ys = sy at *
      have y0a := fun o => alloc_cell y0 o
      have y1a := fun o => alloc_cell y1 o
      go_wp2_with (go_at_call 45; (with_reducible refine (objects_any _ _ _ _ _).mono ?_); rintro e w9 ⟨rfl, rfl⟩)
      obtain ⟨WL, hWL⟩ : ∃ WL, ((w2.alloc (Obj.cells #[Value.int .i64 0] 3)).alloc (Obj.cells #[Value.slice pv ws.length cv] 22)).alloc (Obj.cells #[Value.int .i64 (tn : Int)] 3) = WL := ⟨_, rfl⟩
      rw [hWL]
      have hbl : Below w2.heap.size w2 WL := by rw [← hWL]; exact (((Below.refl _ _).alloc (Nat.le_refl _) _).alloc (by simp) _).alloc (by simp; omega) _
      have hszL : WL.heap.size = w2.heap.size + 3 := by rw [← hWL]; simp
      have yb : WL.cell? ⟨w2.heap.size + 1, 0, none⟩ = some (.slice pv ws.length cv) := by
        rw [← hWL]
        exact alloc_cell (by
          have := cell_newK (w := w2.alloc (Obj.cells #[Value.int .i64 0] 3)) (cs := #[.slice pv ws.length cv]) (T := 22) (k := 0) rfl
          rwa [World.size_alloc] at this) _
      have ya : WL.cell? ⟨w2.heap.size + 1 + 1, 0, none⟩ = some (.int .i64 tn) := by
        rw [← hWL]
        have := cell_newK (w := (w2.alloc (Obj.cells #[Value.int .i64 0] 3)).alloc (Obj.cells #[Value.slice pv ws.length cv] 22)) (cs := #[.int .i64 (tn : Int)]) (T := 3) (k := 0) rfl
        rwa [World.size_alloc, World.size_alloc] at this
      have yi : WL.cell? ⟨w2.heap.size, 0, none⟩ = some (.int .i64 (0 : Nat)) := by rw [← hWL]; exact alloc_cell (alloc_cell (by simp) _) _
      have zi : WL.frozen? ⟨w2.heap.size, 0, none⟩ = false := by
        have : WL.heap[w2.heap.size]? = some (.cells #[.int .i64 0] 3 (0, 0)) := by
          rw [← hWL]
          exact (Below.heap_alloc _ _ _ (by simp; omega)).trans ((Below.heap_alloc _ _ _ (by simp)).trans (World.alloc_heap_new w2 _))
        simp [World.frozen?, this]
      have HQ0 := Lib.hid (show QJ WL w2.heap.size 0 WL from ⟨Kw.refl _ _, yi, zi⟩)
      have hrl := HRJ2.out.keep hbl
      have HRL := Lib.hid hrl
      have hul := below_cell hbl y2'
      have HOL := Lib.hid (show WL.ownsRow (w.heap.size + 2) 3 1 u ys.length (sy.map (Value.int .i64)) from HOWN2.out.kept (row := none) ⟨hbl.os, hbl.tape, hbl.output, hbl.size, fun k hk _ => hbl.block k hk⟩ (by cases u.ownBlock <;> simp))
      have hw2 := HRJ2.out.sz
      have HUF := Lib.hid HOL.out.2
      obtain ⟨pu, nu, cu, rfl⟩ : ∃ p n c, u = .slice p n c := by
        rcases HOL.out.2 with ⟨e, _⟩ | ⟨g, cap, cur, e, _⟩
        · exact ⟨_, _, _, e⟩
        · exact ⟨_, _, _, e⟩
      have hnu : nu = sy.length := by
        rcases HOL.out.2 with ⟨e, e2⟩ | ⟨g, cap, cur, e, _⟩
        · cases e; rw [HSL.out]; exact e2.symm
        · cases e; exact HSL.out.symm
      subst hnu
      have HUC := Lib.hid (show ∀ i, i < sy.length → ∃ g, pu = some ⟨g, 0, none⟩ ∧ g ≠ w2.heap.size ∧ WL.cell? ⟨g, i, none⟩ = some (.int .i64 (sy.getD i 0)) from fun i hi => by
        rcases HOWN2.out.2 with ⟨e, e2⟩ | ⟨g, cap, cur, e, _, hgb, _⟩
        · have := HSL.out; omega
        · injection e with e1 e2 e3
          subst e1; subst e3
          have hgl := (Array.getElem?_eq_some_iff.1 hgb).1
          refine ⟨g, rfl, by omega, ?_⟩
          have := HOL.out
          rw [← HSL.out] at this
          rw [this.cellAt i (by omega), List.getElem?_map, List.getElem?_eq_getElem hi, List.getD_eq_getElem?_getD, List.getElem?_eq_getElem hi]
          rfl)
      clear hWL hbl hrl yi zi y0a y1a HUF
      refine wp_rangeJ (K := fun b => b < WL.heap.size ∧ b ≠ w2.heap.size) (It := ItO l) (R := RO l (szN ws) (.slice pv ws.length cv)) (N := l.length) (by rfl) (fun _ _ => enter_objs _ _) ?hseq ?hKs ?hps
        (fun E k A => ∃ i, Wk l sy k i ∧ QJ WL w2.heap.size i A) ?hR ?hJ ?hIt ?h0 ?hround ?hdone
      case hseq =>
        intro W hk hs
        refine objs_gives HO.out.objs _ _ _ W (w2.heap.size + 1 + 1) (w2.heap.size + 1) _ ?_ ?_ ⟨by omega, by omega⟩ ⟨by omega, by omega⟩
        · exact (World.cell?_of_block (a := ⟨w2.heap.size + 1 + 1, 0, none⟩) (hk.block _ trivial (by dsimp only; omega))).trans ya
        · exact (World.cell?_of_block (a := ⟨w2.heap.size + 1, 0, none⟩) (hk.block _ trivial (by dsimp only; omega))).trans yb
      case hKs => intro b hb; exact hb.1
      case hps => rintro k A args rfl; rfl
      case hR =>
        rintro E k A hE ⟨i, _, hq⟩ hk
        have h1 := HO.out.head _ (mem_getD hk)
        have h2 := HO.out.in1 _ (mem_getD hk)
        have h3 := HO.out.le
        have h4 := hS_lo (ws.getD (l.getD k 0) 0)
        refine ⟨ws, HR.out.keep (hq.below HRL.out.bel (by omega)), by omega, ?_, h1.1, by omega⟩
        unfold szN; omega
      case hJ =>
        rintro E k A A' hE ⟨i, h1, hq⟩ hk
        exact ⟨i, h1, hq.kw' hk (fun b hb => ⟨by omega, by omega⟩) (by omega)⟩
      case hIt => rintro k A A' args rfl hk; rfl
      case h0 => exact fun E => ⟨0, Wk.start l sy, HQ0.out⟩
      case hround =>
        rintro q E k args A hE hEA hkn hj rfl
        clear hj
        obtain ⟨a, hak⟩ : ∃ a, l.getD k 0 = a := ⟨_, rfl⟩
        have HAK := Lib.hid hak
        have HLU := Lib.hid HO.out.rising
        rw [hak]
        clear hak
        gi_wp2
        (try refine ⟨trivial, ?_⟩)
        intro A5 hEA5 hj hit
        obtain ⟨i, hwk, hq⟩ := hj
        have HWK := Lib.hid hwk
        have HQ := Lib.hid hq
        clear hwk hq hit
        gi_wp2
        gi_loopw [] (fun wr => ∃ i, Wk l sy k i ∧ QJ WL w2.heap.size i wr ∧ Kw (fun b => b ≠ w2.heap.size) A5 wr) (fun wr => sy.length - (intOf ((wr.cell? ⟨w2.heap.size, 0, none⟩).getD undef)).toNat)
        case atStart => exact ⟨i, HWK.out, HQ.out, Kw.refl _ _⟩
        case round =>
          obtain ⟨i, hwk, hq, hkw⟩ := hrel
          have HWK2 := Lib.hid hwk
          have HQ2 := Lib.hid hq
          have HKW2 := Lib.hid hkw
          have ci := hq.ci
          have fi := hq.fi
          have yu := hq.cell hul (by dsimp only; omega)
          have hil := hwk.le
          clear hwk hq hkw
          by_cases hlt : i < sy.length
          · have hlz : (i : Int) < (sy.length : Int) := Int.ofNat_lt.2 hlt
            obtain ⟨g, rfl, hgn, hcell⟩ := HUC.out i hlt
            have hce := HQ2.out.cell hcell hgn
            obtain ⟨x, hx⟩ : ∃ x, sy.getD i 0 = x := ⟨_, rfl⟩
            have HX := Lib.hid hx
            rw [hx] at hce
            clear hx hcell
            by_cases hxa : x = (a : Int)
            · subst hxa
              have HMR := Lib.hid (HWK2.out.more HLU.out HSU.out hkn hlt (by rw [HX.out, HAK.out]))
              have hiw : wrap64 ((i : Int) + 1) = ((i + 1 : Nat) : Int) := rr_w hlt HSL.out hlen hmr
              have HST := Lib.hid (show QJ WL w2.heap.size (i + 1) (wr.setCell ⟨w2.heap.size, 0, none⟩ (.int .i64 ((i + 1 : Nat) : Int))) from HQ2.out.set (i + 1))
              gi_wp2
              rw [show (i : Int) + 1 = ((i + 1 : Nat) : Int) from rfl]
              refine ⟨⟨i + 1, HMR.out, HST.out, HKW2.out.setCell _ _ (fun h => h rfl)⟩, ?_⟩
              rw [HST.out.ci, HQ2.out.ci]
              exact rr_meas hlt
            · have hxb : (x == (a : Int)) = false := by simpa using hxa
              have HNX := Lib.hid (HWK2.out.next (fun _ => by rw [HX.out, HAK.out]; exact hxa))
              gi_wp2
              exact ⟨⟨i, HNX.out, HQ2.out⟩, HKW2.out.mono fun b hb hlt => rr_k (by omega) hb⟩
          · have hlz : ¬ (i : Int) < (sy.length : Int) := by omega
            have HNX := Lib.hid (HWK2.out.next (fun h => absurd h hlt))
            gi_wp2
            exact ⟨⟨i, HNX.out, HQ2.out⟩, HKW2.out.mono fun b hb hlt => rr_k (by omega) hb⟩
      case hdone =>
        rintro E W hE ⟨i, hwk, hq⟩ hD
        have HWK := Lib.hid hwk
        have HQ := Lib.hid hq
        have HD := Lib.hid hD
        have ci := hq.ci
        have fi := hq.fi
        have yu := hq.cell hul (by dsimp only; omega)
        clear hwk hq hD
        have HE2 := Lib.hid (show ((i : Int) == (sy.length : Int)) = rs.all (rightW l) by
          rw [← HE.out, ← HWK.out.done]
          rw [Bool.eq_iff_iff, beq_iff_eq, decide_eq_true_eq]
          omega)
        have HB := Lib.hid (HQ.out.below HRL.out.bel (by omega))
        have HSZ := Lib.hid HQ.out.kw.size
        go_wp2_with fail
        refine leaves_marks (S := WL.heap.size) _ _ ⟨[WL.heap.size], rfl, by simp, fun D hm => by simp at hm; subst hm; exact ⟨Nat.le_refl _, HD.out⟩⟩ ?_
        intro W' hk
        have h1 := HRL.out.bel.size
        exact ⟨_, results_tmp rfl _ _ _, by rw [← HE2.out]; rfl, HB.out.trans (hk.below (by have := HSZ.out; omega) (fun b hb => .inl (by omega)))⟩
end
end Go.Proofs.Ytfhjpgbnojdlkaa
