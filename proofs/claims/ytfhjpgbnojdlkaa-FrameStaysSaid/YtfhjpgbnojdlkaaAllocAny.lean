/- Both Allocs in one contract each: of any memory. -/
import Derived.Test.YtfhjpgbnojdlkaaRefAlloc
import Derived.Test.YtfhjpgbnojdlkaaRefAllocBad
namespace Go.Proofs.Ytfhjpgbnojdlkaa
open Go.ChangeShapes Go.WideShapes Go.ChangeAt Go.RowKit
set_option linter.unusedVariables false
set_option linter.unusedSimpArgs false
def resL (ws : List Int) (top k t r : Int) : List Int := if allocErr ws.length top k t r = 0 then allocL ws top.toNat (k + t * 256 + (2 + t + r) * 4294967296) t.toNat (t + r).toNat else ws
def resTop (ws : List Int) (top k t r : Int) : Int := if allocErr ws.length top k t r = 0 then top + (2 + t + r) else top
def resAt (ws : List Int) (top k t r : Int) : Int := if allocErr ws.length top k t r = 0 then top else 0
theorem err_cases (n : Nat) (top k t r : Int) : (allocErr n top k t r = 0 ∧ (1 ≤ top ∧ top ≤ n ∧ 1 ≤ k ∧ k ≤ 255 ∧ 0 ≤ t ∧ t ≤ 1048576 ∧ 0 ≤ r ∧ r ≤ 1048576) ∧ (2 + t + r < 16777216 ∧ 2 + t + r ≤ n - top)) ∨ allocErr n top k t r = 1 ∨ allocErr n top k t r = 5 := by
  unfold allocErr
  by_cases h : 1 ≤ top ∧ top ≤ n ∧ 1 ≤ k ∧ k ≤ 255 ∧ 0 ≤ t ∧ t ≤ 1048576 ∧ 0 ≤ r ∧ r ≤ 1048576
  · rw [if_pos h]
    by_cases h2 : 2 + t + r < 16777216 ∧ 2 + t + r ≤ n - top
    · rw [if_pos h2]; exact .inl ⟨rfl, h, h2⟩
    · rw [if_neg h2]; exact .inr (.inr rfl)
  · rw [if_neg h]; exact .inr (.inl rfl)
def RefPost (W : World) (ws : List Int) (top k t r : Int) (e : Ending) (w' : World) : Prop :=
  ∃ v', e = .returned (.tuple #[.agg #[v', .int .i64 (resTop ws top k t r)], .int .i64 (resAt ws top k t r), .int .i64 (allocErr ws.length top k t r)]) ∧ Rd w' v' (resL ws top k t r) ∧ Below W.heap.size W w'
theorem Rd.bound {w : World} {v : Value} {ws : List Int} (h : Rd w v ws) : ∃ p c, v = .slice p ws.length c ∧ ws.length ≤ 17592186043904 := by
  rcases h with ⟨p, rfl, rfl⟩ | ⟨b, off, c, rfl, h1, h2, h3⟩
  · exact ⟨p, 0, rfl, by simp⟩
  · exact ⟨_, c, rfl, h2⟩
theorem refalloc_any (v : Value) (ws : List Int) (top k t r : Int) (w : World) (hr : Rd w v ws) (hx : -9223372036854775808 ≤ top ∧ top ≤ 9223372036854775807) :
    Calls Try.prog 94 #[.agg #[v, .int .i64 top], .int .i64 k, .int .i64 t, .int .i64 r] w (RefPost w ws top k t r) := by
  obtain ⟨p, c, rfl, hn⟩ := hr.bound
  rcases err_cases ws.length top k t r with ⟨h0, ⟨b1, b2, b3, b4, b5, b6, b7, b8⟩, s1, s2⟩ | h0 | h0
  · obtain ⟨a, rfl⟩ := Int.eq_ofNat_of_zero_le (by omega : 0 ≤ top)
    obtain ⟨T, rfl⟩ := Int.eq_ofNat_of_zero_le b5
    obtain ⟨R, rfl⟩ := Int.eq_ofNat_of_zero_le b7
    refine (refalloc_good _ ws a k T R w hr (by omega) (by omega) ⟨b3, b4⟩ b6 b8 ⟨s1, s2⟩).mono ?_
    rintro e w' ⟨v', rfl, h1, h2⟩
    refine ⟨v', ?_, ?_, h2⟩
    · unfold resTop resAt
      rw [if_pos h0, if_pos h0, h0, show (a : Int) + ((T : Int) + (R : Int) + 2) = (a : Int) + (2 + (T : Int) + (R : Int)) by omega]
    · unfold resL
      rw [if_pos h0, Int.toNat_natCast, Int.toNat_natCast, show ((T : Int) + (R : Int)).toNat = T + R by omega]
      exact h1
  · refine (refalloc_one p ws.length c top k t r w h0 hx).mono ?_
    rintro e w' ⟨rfl, h2⟩
    refine ⟨.slice p ws.length c, ?_, ?_, h2⟩
    · unfold resTop resAt
      rw [h0, if_neg (by decide), if_neg (by decide)]
    · unfold resL
      rw [h0, if_neg (by decide)]
      exact hr.keep h2
  · refine (refalloc_five p ws.length c top k t r w hn h0).mono ?_
    rintro e w' ⟨rfl, h2⟩
    refine ⟨.slice p ws.length c, ?_, ?_, h2⟩
    · unfold resTop resAt
      rw [h0, if_neg (by decide), if_neg (by decide)]
    · unfold resL
      rw [h0, if_neg (by decide)]
      exact hr.keep h2
def AnyPost (W : World) (B : Nat) (v : Value) (ws : List Int) (top k t r : Int) (e : Ending) (w' : World) : Prop :=
  e = .returned (.tuple #[.int .i64 (resAt ws top k t r), .int .i64 (allocErr ws.length top k t r)]) ∧ w'.cell? ⟨B, 0, none⟩ = some v ∧ w'.cell? ⟨B, 1, none⟩ = some (.int .i64 (resTop ws top k t r)) ∧ Rd w' v (resL ws top k t r) ∧ Below W.heap.size W w'
/-- The memory of an owned row reads as its words. -/
theorem own_rd {w : World} {B : Nat} {v : Value} {ws : List Int} (h : w.ownsRow B 46 1 v ws.length (ws.map (Value.int .u64))) (hm : ws.length ≤ 17592186043904) : Rd w v ws := by
  by_cases h0 : 0 < ws.length
  · obtain ⟨g, cap, rfl, hg, hc, hrow⟩ := row_own h h0
    refine .inr ⟨g, 0, cap, rfl, hc, hm, fun i hi => ?_⟩
    rw [Nat.zero_add]; exact hrow.cell hc hi
  · obtain rfl : ws = [] := List.length_eq_zero_iff.1 (by omega)
    rcases h.2 with ⟨rfl, h2⟩ | ⟨g, cap, cur, hv, hg, r1, r2, r3, r4, r5⟩
    · exact .inl ⟨none, rfl, rfl⟩
    · exact .inr ⟨g, 0, cap, hv, r2, hm, fun i hi => by simp at hi⟩
theorem alloc_any (W w0 : World) (v : Value) (ws : List Int) (top k t r : Int) (T : TypeId) (hW : Below W.heap.size W w0) (hown : w0.ownsRow W.heap.size 46 1 v ws.length (ws.map (Value.int .u64))) (hm : ws.length ≤ 17592186043904) (hx : -9223372036854775808 ≤ top ∧ top ≤ 9223372036854775807) :
    Calls Try.prog 67 #[.pointer (some ⟨w0.heap.size, 0, none⟩), .int .i64 k, .int .i64 t, .int .i64 r] (w0.alloc (Obj.cells #[v, .int .i64 top] T)) (AnyPost W w0.heap.size v ws top k t r) := by
  have hr := own_rd hown hm
  have hB : Below W.heap.size W (w0.alloc (Obj.cells #[v, .int .i64 top] T)) := hW.alloc hW.size _
  have c0 : (w0.alloc (Obj.cells #[v, .int .i64 top] T)).cell? ⟨w0.heap.size, 0, none⟩ = some v := by simp
  have c1 : (w0.alloc (Obj.cells #[v, .int .i64 top] T)).cell? ⟨w0.heap.size, 1, none⟩ = some (.int .i64 top) := by simp
  obtain ⟨p, c, rfl, hn⟩ := hr.bound
  have hr2 := hr.alloc (Obj.cells #[.slice p ws.length c, .int .i64 top] T)
  rcases err_cases ws.length top k t r with ⟨h0, ⟨b1, b2, b3, b4, b5, b6, b7, b8⟩, s1, s2⟩ | h0 | h0
  · obtain ⟨g, cap, hv, hg, hc, hrow⟩ := row_own hown (by omega)
    simp only [Value.slice.injEq] at hv
    obtain ⟨rfl, _, rfl⟩ := hv
    have hlt := hrow.lt
    have hma : MA (w0.alloc (Obj.cells #[.slice (some ⟨g, 0, none⟩) ws.length c, .int .i64 top] T)) w0.heap.size g ws.length c top (fun i => ws.getD i 0) :=
      ⟨by simp, by simp, by simp, hrow.block (Below.heap_alloc _ _ _ hlt), hc, hn, by omega⟩
    refine (alloc_good _ g ws.length c top _ k t r _ hma ⟨b1, b2, b3, b4, b5, b6, b7, b8⟩ ⟨s1, s2⟩).mono ?_
    rintro e w' ⟨rfl, hA⟩
    refine ⟨?_, hA.box0, ?_, ?_, hA.below hB hW.size hg⟩
    · unfold resAt; rw [if_pos h0, h0]
    · unfold resTop; rw [if_pos h0]; exact hA.box1
    · unfold resL; rw [if_pos h0]; exact rd_ofRow hA.row hc hn
  · refine (alloc_bad0 _ ws.length c p top k t r _ c0 c1 h0 hx).mono ?_
    rintro e w' ⟨rfl, q, rfl⟩
    refine ⟨?_, c0, ?_, ?_, below_drewN hB q⟩
    · unfold resAt; rw [h0, if_neg (by decide)]
    · unfold resTop; rw [h0, if_neg (by decide)]; exact c1
    · unfold resL; rw [h0, if_neg (by decide)]; exact hr2.keep (below_drewN (Below.refl _ _) q)
  · obtain ⟨h1, h2⟩ := err_five h0
    obtain ⟨g, cap, hv, hg, hc, hrow⟩ := row_own hown (by omega)
    simp only [Value.slice.injEq] at hv
    obtain ⟨rfl, _, rfl⟩ := hv
    have hlt := hrow.lt
    have hma : MA (w0.alloc (Obj.cells #[.slice (some ⟨g, 0, none⟩) ws.length c, .int .i64 top] T)) w0.heap.size g ws.length c top (fun i => ws.getD i 0) :=
      ⟨by simp, by simp, by simp, hrow.block (Below.heap_alloc _ _ _ hlt), hc, hn, by omega⟩
    refine (alloc_full _ g ws.length c top _ k t r _ hma h1 h2).mono ?_
    rintro e w' ⟨rfl, q, rfl⟩
    refine ⟨?_, c0, ?_, ?_, below_drewN hB q⟩
    · unfold resAt; rw [h0, if_neg (by decide)]
    · unfold resTop; rw [h0, if_neg (by decide)]; exact c1
    · unfold resL; rw [h0, if_neg (by decide)]; exact hr2.keep (below_drewN (Below.refl _ _) q)
end Go.Proofs.Ytfhjpgbnojdlkaa
