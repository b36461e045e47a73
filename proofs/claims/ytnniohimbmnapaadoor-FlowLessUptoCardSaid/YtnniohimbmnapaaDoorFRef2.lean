/- Layer 8: the document's Goes and Allocates. -/
import Derived.Test.YtnniohimbmnapaaDoorFRow
import Derived.Test.YtnniohimbmnapaaDoorFCode
namespace Go.Proofs.YtnniohimbmnapaaDoor
open Go.ChangeShapes Go.WideShapes Go.RowKit
set_option linter.unusedVariables false
set_option linter.unusedSimpArgs false
theorem own_lit {w : World} {T : TypeId} {cs : Array Value} {b n B : Nat} (hb : b = w.heap.size) (hn : cs.size = n) (hm : n ≤ maxLen) (hB : B ≤ w.heap.size) : (w.alloc (.cells cs T)).ownsRow B T 1 (.slice (some ⟨b, 0, none⟩) n n) n cs.toList := by
  subst hb
  exact ⟨by simp [hn], .inr ⟨w.heap.size, n, cs, rfl, hB, heap_alloc_new w _, Nat.le_refl _, hm, by omega, by rw [List.take_of_length_le (by simp [hn])]⟩⟩
theorem row_field0 (v0 v1 v2 v3 v4 v5 v6 v7 v8 : Value) (w : World) : (Instr.field 80 (.agg #[v0, v1, v2, v3, v4, v5, v6, v7, v8]) 0).run Tryd.prog w = .ok v0 w := by kernel_rfl
theorem row_field1 (v0 v1 v2 v3 v4 v5 v6 v7 v8 : Value) (w : World) : (Instr.field 80 (.agg #[v0, v1, v2, v3, v4, v5, v6, v7, v8]) 1).run Tryd.prog w = .ok v1 w := by kernel_rfl
theorem rall_yes {op : Int} (h : op = 0 ∨ op = 1 ∨ op = 2 ∨ op = 5 ∨ op = 18) : allocB op = false := by
  have hf := (rowOk op).f
  have : doesB op 256 = true := by rw [← hf]; rcases h with rfl | rfl | rfl | rfl | rfl <;> decide
  simp [allocB, this]
theorem rall_no {op : Int} (h0 : ¬ op = 0) (h1 : ¬ op = 1) (h2 : ¬ op = 2) (h5 : ¬ op = 5) (h18 : ¬ op = 18) : allocB op = (rowAt op).kn := by
  have hf := (rowOk op).f
  have : doesB op 256 = false := by rw [← hf]; simp [h0, h1, h2, h5, h18]
  rw [(rowOk op).k]
  simp [allocB, this]
set_option maxHeartbeats 2000000 in
theorem rallocates_any (op : Int) (w : World) : Calls Tryd.prog 39 #[.int .i64 op] w fun e w' => e = .returned (.bool (allocB op)) ∧ Below w.heap.size w w' := by
  by_cases h : op = 0 ∨ op = 1 ∨ op = 2 ∨ op = 5 ∨ op = 18
  · have HA := Lib.hid (rall_yes h)
    rcases h with rfl | rfl | rfl | rfl | rfl
    all_goals
      go_enter Tryd.func39, Tryd.ntmps39
      go_wp2
      go_ret
      exact ⟨ret_b HA.out.symm, Below.refl _ _⟩
  · have h0 : ¬ op = 0 := fun e => h (.inl e)
    have h1 : ¬ op = 1 := fun e => h (.inr (.inl e))
    have h2 : ¬ op = 2 := fun e => h (.inr (.inr (.inl e)))
    have h5 : ¬ op = 5 := fun e => h (.inr (.inr (.inr (.inl e))))
    have h18 : ¬ op = 18 := fun e => h (.inr (.inr (.inr (.inr e))))
    have HA := Lib.hid (rall_no h0 h1 h2 h5 h18)
    have e0 : (op == 0) = false := by simpa using h0
    have e1 : (op == 1) = false := by simpa using h1
    have e2 : (op == 2) = false := by simpa using h2
    have e5 : (op == 5) = false := by simpa using h5
    have e18 : (op == 18) = false := by simpa using h18
    clear h h0 h1 h2 h5 h18
    have hfld := row_field0
    go_enter Tryd.func39, Tryd.ntmps39
    go_wp2_with (go_at_call 53; (with_reducible refine (rowof_any _ _).mono ?_); rintro e w9 ⟨rfl, hb⟩; have HB := Lib.hid hb; clear hb; unfold rowV)
    go_ret
    exact ⟨ret_b HA.out.symm, HB.out⟩
set_option maxRecDepth 100000 in
set_option maxHeartbeats 2000000 in
theorem rgoes_any (i : InsD) (lv : Value) (x : Int) (hx0 : -9223372036854775808 ≤ x) (hx1 : x ≤ 9223372036854775807) (w : World) (hl : Ri w lv i.l) : Calls Tryd.prog 47 #[insV i lv, .int .i64 x] w (LPost w (goesD i x)) := by
  have hn := (rowOk i.op).n
  have ht := (rowOk i.op).t
  obtain ⟨p, c, rfl, hc1, hc2, hc3⟩ := ri_form hl
  clear hl hc1 hc3
  obtain ⟨hlt, HY⟩ | ⟨hlt, HY⟩ : (x < 9223372036854775807 ∧ Hid (nextI x = x + 1)) ∨ (¬ x < 9223372036854775807 ∧ Hid (nextI x = x)) := by
    by_cases hlt : x < 9223372036854775807
    · exact .inl ⟨hlt, Lib.hid (by unfold nextI; rw [if_pos hlt])⟩
    · exact .inr ⟨hlt, Lib.hid (by unfold nextI; rw [if_neg hlt])⟩
  all_goals
    by_cases h18 : i.op = 18
    · have HD := Lib.hid (show goesD i x = [i.t] by unfold goesD; rw [← hn, ← ht, h18]; simp)
      have e18 : (i.op == 18) = true := by simpa using h18
      clear hn ht h18
      unfold insV
      go_enter Tryd.func47, Tryd.ntmps47
      go_wp2
      go_ret
      exact ⟨_, rfl, by rw [HD.out]; exact own_lit (by first | rfl | (simp; done)) rfl (by unfold maxLen; simp) (by first | omega | (simp; done)), by ((repeat' (first | with_reducible assumption | with_reducible exact Below.refl _ _ | with_reducible refine Below.drew ?_ | with_reducible refine Below.alloc ?_ (by first | omega | (simp; omega) | (simp; done) | fail) _ | with_reducible refine Below.setCell ?_ (by first | omega | (simp; omega) | (simp; done) | fail) _ | fail)); (first | done | fail))⟩
    · have e18 : (i.op == 18) = false := by simpa using h18
      by_cases hr : i.op = 41 ∨ i.op = 42
      · have HD := Lib.hid (show goesD i x = [] by unfold goesD; rw [← hn, ← ht]; rcases hr with h | h <;> rw [h] <;> simp)
        clear hn ht h18
        rcases hr with h | h
        · have e1 : (i.op == 41) = true := by simpa using h
          clear h
          unfold insV
          go_enter Tryd.func47, Tryd.ntmps47
          go_wp2
          go_ret
          exact ⟨_, rfl, by rw [HD.out]; exact OW.nil _ _, by ((repeat' (first | with_reducible assumption | with_reducible exact Below.refl _ _ | with_reducible refine Below.drew ?_ | with_reducible refine Below.alloc ?_ (by first | omega | (simp; omega) | (simp; done) | fail) _ | with_reducible refine Below.setCell ?_ (by first | omega | (simp; omega) | (simp; done) | fail) _ | fail)); (first | done | fail))⟩
        · have e1 : (i.op == 41) = false := by rw [h]; rfl
          have e2 : (i.op == 42) = true := by simpa using h
          clear h
          unfold insV
          go_enter Tryd.func47, Tryd.ntmps47
          go_wp2
          go_ret
          exact ⟨_, rfl, by rw [HD.out]; exact OW.nil _ _, by ((repeat' (first | with_reducible assumption | with_reducible exact Below.refl _ _ | with_reducible refine Below.drew ?_ | with_reducible refine Below.alloc ?_ (by first | omega | (simp; omega) | (simp; done) | fail) _ | with_reducible refine Below.setCell ?_ (by first | omega | (simp; omega) | (simp; done) | fail) _ | fail)); (first | done | fail))⟩
      · have e41 : (i.op == 41) = false := by rw [beq_eq_false_iff_ne]; exact fun e => hr (.inl e)
        have e42 : (i.op == 42) = false := by rw [beq_eq_false_iff_ne]; exact fun e => hr (.inr e)
        by_cases hq : i.op = 19 ∨ i.op = 20 ∨ i.op = 39
        · have HD := Lib.hid (show goesD i x = [nextI x, i.t] by unfold goesD; rw [← hn, ← ht, e18, e41, e42]; rcases hq with h | h | h <;> rw [h] <;> simp)
          clear hn ht h18 hr
          rcases hq with h | h | h
          · have f1 : (i.op == 19) = true := by simpa using h
            clear h
            unfold insV
            go_enter Tryd.func47, Tryd.ntmps47
            go_wp2
            go_ret
            exact ⟨_, rfl, by rw [HD.out, HY.out]; exact own_lit (by first | rfl | (simp; done)) rfl (by unfold maxLen; simp) (by first | omega | (simp; done)), by ((repeat' (first | with_reducible assumption | with_reducible exact Below.refl _ _ | with_reducible refine Below.drew ?_ | with_reducible refine Below.alloc ?_ (by first | omega | (simp; omega) | (simp; done) | fail) _ | with_reducible refine Below.setCell ?_ (by first | omega | (simp; omega) | (simp; done) | fail) _ | fail)); (first | done | fail))⟩
          · have f1 : (i.op == 19) = false := by rw [h]; rfl
            have f2 : (i.op == 20) = true := by simpa using h
            clear h
            unfold insV
            go_enter Tryd.func47, Tryd.ntmps47
            go_wp2
            go_ret
            exact ⟨_, rfl, by rw [HD.out, HY.out]; exact own_lit (by first | rfl | (simp; done)) rfl (by unfold maxLen; simp) (by first | omega | (simp; done)), by ((repeat' (first | with_reducible assumption | with_reducible exact Below.refl _ _ | with_reducible refine Below.drew ?_ | with_reducible refine Below.alloc ?_ (by first | omega | (simp; omega) | (simp; done) | fail) _ | with_reducible refine Below.setCell ?_ (by first | omega | (simp; omega) | (simp; done) | fail) _ | fail)); (first | done | fail))⟩
          · have f1 : (i.op == 19) = false := by rw [h]; rfl
            have f2 : (i.op == 20) = false := by rw [h]; rfl
            have f3 : (i.op == 39) = true := by simpa using h
            clear h
            unfold insV
            go_enter Tryd.func47, Tryd.ntmps47
            go_wp2
            go_ret
            exact ⟨_, rfl, by rw [HD.out, HY.out]; exact own_lit (by first | rfl | (simp; done)) rfl (by unfold maxLen; simp) (by first | omega | (simp; done)), by ((repeat' (first | with_reducible assumption | with_reducible exact Below.refl _ _ | with_reducible refine Below.drew ?_ | with_reducible refine Below.alloc ?_ (by first | omega | (simp; omega) | (simp; done) | fail) _ | with_reducible refine Below.setCell ?_ (by first | omega | (simp; omega) | (simp; done) | fail) _ | fail)); (first | done | fail))⟩
        · have f1 : (i.op == 19) = false := by rw [beq_eq_false_iff_ne]; exact fun e => hq (.inl e)
          have f2 : (i.op == 20) = false := by rw [beq_eq_false_iff_ne]; exact fun e => hq (.inr (.inl e))
          have f3 : (i.op == 39) = false := by rw [beq_eq_false_iff_ne]; exact fun e => hq (.inr (.inr e))
          have HD := Lib.hid (show goesD i x = [nextI x] by unfold goesD; rw [← hn, ← ht, e18, e41, e42, f1, f2, f3]; rfl)
          clear hn ht h18 hr hq
          unfold insV
          go_enter Tryd.func47, Tryd.ntmps47
          go_wp2
          go_ret
          exact ⟨_, rfl, by rw [HD.out, HY.out]; exact own_lit (by first | rfl | (simp; done)) rfl (by unfold maxLen; simp) (by first | omega | (simp; done)), by ((repeat' (first | with_reducible assumption | with_reducible exact Below.refl _ _ | with_reducible refine Below.drew ?_ | with_reducible refine Below.alloc ?_ (by first | omega | (simp; omega) | (simp; done) | fail) _ | with_reducible refine Below.setCell ?_ (by first | omega | (simp; omega) | (simp; done) | fail) _ | fail)); (first | done | fail))⟩
end Go.Proofs.YtnniohimbmnapaaDoor
