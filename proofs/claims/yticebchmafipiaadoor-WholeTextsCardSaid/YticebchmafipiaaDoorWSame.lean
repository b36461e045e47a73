/- Layer 2: screeref02.Same: what it answers of two numbers' signs and limbs. -/
import Derived.Test.YticebchmafipiaaDoorWGood
namespace Go.Proofs.YticebchmafipiaaDoor
open Go.ChangeShapes Go.WideShapes Go.ChangeAt Go.RowKit
set_option linter.unusedVariables false
set_option linter.unusedSimpArgs false
def sameB (n1 : Bool) (xs : List Int) (n2 : Bool) (ys : List Int) : Bool := (n1 == n2) && decide (xs = ys)
theorem sameB_sign {n1 n2 : Bool} (xs ys : List Int) (h : n1 ≠ n2) : sameB n1 xs n2 ys = false := by
  unfold sameB; cases n1 <;> cases n2 <;> simp_all
theorem sameB_len {n1 n2 : Bool} {xs ys : List Int} (h : xs.length ≠ ys.length) : sameB n1 xs n2 ys = false := by
  unfold sameB; rw [decide_eq_false (fun e => h (by rw [e])), Bool.and_false]
theorem sameB_at {n1 n2 : Bool} {xs ys : List Int} (i : Nat) (h : xs.getD i 0 ≠ ys.getD i 0) : sameB n1 xs n2 ys = false := by
  unfold sameB; rw [decide_eq_false (fun e => h (by rw [e])), Bool.and_false]
theorem list_ext_getD {xs ys : List Int} (hl : xs.length = ys.length) (h : ∀ i, i < xs.length → xs.getD i 0 = ys.getD i 0) : xs = ys := by
  apply List.ext_getElem hl
  intro i h1 h2
  have := h i h1
  simpa [List.getD_eq_getElem?_getD, h1, h2] using this
theorem sameB_yes {n : Bool} {xs ys : List Int} (hl : xs.length = ys.length) (h : ∀ i, i < xs.length → xs.getD i 0 = ys.getD i 0) : sameB n xs n ys = true := by
  unfold sameB; rw [list_ext_getD hl h]; simp
set_option maxRecDepth 100000 in
set_option maxHeartbeats 1000000 in
theorem same_any (n1 n2 : Bool) (u1 u2 : Value) (xs ys : List Int) (w : World) (h1 : Rd w u1 xs) (h2 : Rd w u2 ys) :
    Calls Tryd.prog 22 #[.agg #[.bool n1, u1], .agg #[.bool n2, u2]] w (BoolPost w (sameB n1 xs n2 ys)) := by
  obtain ⟨p1, c1, rfl, hc1, hm1, hp1⟩ := rd_form h1
  obtain ⟨p2, c2, rfl, hc2, hm2, hp2⟩ := rd_form h2
  have HB := Lib.hid (show Below w.heap.size w ((w.alloc (.cells #[.bool n1, .slice p1 xs.length c1] 24)).alloc (.cells #[.bool n2, .slice p2 ys.length c2] 24)) from ((Below.refl _ _).alloc (Nat.le_refl _) _).alloc (by simp) _)
  clear h1 h2 hc1 hc2
  by_cases hs : n1 = n2
  · subst hs
    by_cases hl : xs.length = ys.length
    · have HL := Lib.hid hl
      rw [← hl] at hp2 HB hm2 ⊢
      have HP1 := Lib.hid hp1
      have HP2 := Lib.hid hp2
      clear hp1 hp2 hl hm2
      go_enter Tryd.func22, Tryd.ntmps22
      go_wp2
      generalize hw2 : World.alloc (World.alloc w _) _ = w2
      have hb0 : w2.cell? ⟨w.heap.size, 1, none⟩ = some (.slice p1 xs.length c1) := by rw [← hw2]; exact alloc_cell (by simp) _
      have hd0 : w2.cell? ⟨w.heap.size + 1, 1, none⟩ = some (.slice p2 xs.length c2) := by rw [← hw2]; simp
      rw [hw2] at HB
      clear hw2
      go_loopw [5] (fun s wr => ∃ k q : Nat, s = .int .i64 k ∧ k ≤ xs.length ∧ wr = w2.drewN q ∧ ∀ j, j < k → xs.getD j 0 = ys.getD j 0) (fun s _ => xs.length - (intOf s).toNat)
      case atStart => exact ⟨0, 0, by go_num, Nat.zero_le _, rfl, fun j hj => by omega⟩
      case round =>
        obtain ⟨k, q, rfl, hk, rfl, hall⟩ := hrel
        have HA := Lib.hid hall
        clear hall
        by_cases hlt : k < xs.length
        · obtain ⟨b1, o1, rfl, hx⟩ := HP1.out (by omega)
          obtain ⟨b2, o2, rfl, hy⟩ := HP2.out (by omega)
          have e1 := below_cell HB.out (hx k hlt)
          have e2 := below_cell HB.out (hy k hlt)
          clear hx hy
          have hlz : (k : Int) < (xs.length : Int) := by omega
          by_cases he : xs.getD k 0 = ys.getD k 0
          · have HE := Lib.hid he
            rw [he] at e1
            clear he
            go_wp2
            go_quiet (fail)
            go_wp2
            go_roundw
            case rel => exact ⟨k + 1, _, by go_num, by omega, rfl, fun j hj => by
              by_cases e : j = k
              · subst e; exact HE.out
              · exact HA.out j (by omega)⟩
            case measure => simp [intOf]; omega
          · have HG := Lib.hid (sameB_at (n1 := n1) (n2 := n1) k he)
            have hne : (xs.getD k 0 != ys.getD k 0) = true := by simpa using he
            clear he
            generalize xs.getD k 0 = x at e1 hne
            generalize ys.getD k 0 = y at e2 hne
            go_wp2
            go_quiet (fail)
            go_wp2
            go_ret
            exact BoolPost.mk HG.out.symm (below_drewN (below_drewN HB.out _) _)
        · have HG := Lib.hid (sameB_yes (n := n1) HL.out (fun i hi => HA.out i (by omega)))
          go_wp2
          go_ret
          exact BoolPost.mk HG.out.symm (below_drewN HB.out _)
    · have HG := Lib.hid (sameB_len (n1 := n1) (n2 := n1) hl)
      have hne : ((xs.length : Int) != (ys.length : Int)) = true := by simp; omega
      have hne2 : ¬ (xs.length : Int) = (ys.length : Int) := by omega
      clear hl
      go_enter Tryd.func22, Tryd.ntmps22
      go_wp2
      go_ret
      exact BoolPost.mk HG.out.symm HB.out
  · have HG := Lib.hid (sameB_sign xs ys hs)
    have hne : (n1 != n2) = true := by simpa using hs
    go_enter Tryd.func22, Tryd.ntmps22
    go_wp2
    go_ret
    exact BoolPost.mk HG.out.symm HB.out
end Go.Proofs.YticebchmafipiaaDoor
