/- The contract of Set. -/
import Derived.Test.YtilonacjmihglaaPGAlloc
import Derived.Deep.DeepCutAuto
namespace Go.Proofs.Ytilonacjmihglaa
open Go.ChangeShapes Go.WideShapes Go.ChangeAt Go.RowKit
set_option linter.unusedVariables false
set_option linter.unusedSimpArgs false
theorem hhas (h i : Int) (w0 : 0 ≤ h ∧ h ≤ 18446744073709551615) (hi : -9223372036854775808 ≤ i ∧ i ≤ 9223372036854775807) (w : World) :
    Calls Try.prog 51 #[.int .u64 h, .int .i64 i] w fun e w' => e = .returned (.bool (decide (0 ≤ i) && decide (i < hS h - 2))) ∧ w = w' := by
  have hs := hS_lo h
  by_cases h0 : 0 ≤ i
  · have d0 : decide (0 ≤ i) = true := by simpa using h0
    go_enter Try.func51, Try.ntmps51
    go_wp2_with fail
    refine (hsize _ w0 _).mono ?_
    rintro e w1 ⟨rfl, rfl⟩
    go_wp2_with fail
    go_ret
    exact ⟨by simp [d0], rfl⟩
  · have d0 : decide (0 ≤ i) = false := by simpa using h0
    go_enter Try.func51, Try.ntmps51
    go_wp2_with fail
    go_ret
    exact ⟨by simp [d0], rfl⟩
theorem viewof_at (b off n c : Nat) (top : Int) (w : World) (hc : n ≤ c) (hm : n ≤ 17592186043904) (h1 : 0 ≤ top) (h2 : top ≤ n) :
    Calls Try.prog 49 #[.agg #[.slice (some ⟨b, off, none⟩) n c, .int .i64 top]] w fun e w' => e = .returned (.agg #[.slice (some ⟨b, off, none⟩) top.toNat c]) ∧ Below w.heap.size w w' := by
  go_enter Try.func49, Try.ntmps49
  go_wp2
  refine bodyPost_ret (v := .agg #[.slice (some ⟨b, off, none⟩) top.toNat c]) (by simp [results, Try.results49, go_sem]) rfl ⟨rfl, ?_⟩
  exact ((Below.refl _ _).alloc (Nat.le_refl _) _).alloc (by simp) _
def setErr (vs : List Int) (a i x : Int) : Int := if there vs a = true ∧ 0 ≤ i ∧ i < hS (headAt vs a) - 2 then (if i < hT (headAt vs a) ∧ kindOf x = 3 then 9 else 0) else 1
theorem there_in {vs : List Int} {a : Int} (h : there vs a = true) : 1 ≤ a ∧ a + hS (headAt vs a) ≤ vs.length ∧ 2 + hT (headAt vs a) ≤ hS (headAt vs a) ∧ 0 ≤ hT (headAt vs a) ∧ headAt vs a = vs.getD a.toNat 0 := by
  unfold there at h
  rw [decide_eq_true_iff] at h
  have := hT_lo (headAt vs a)
  refine ⟨h.1, by omega, by omega, by omega, ?_⟩
  rw [headAt, if_pos ⟨h.1, h.2.1⟩]
set_option maxRecDepth 100000 in
set_option maxHeartbeats 400000 in
theorem set_bad (B b off n c tn : Nat) (vs : List Int) (a i x : Int) (w : World) (hr : Rd w (.slice (some ⟨b, off, none⟩) tn c) vs) (hf : Fit vs) (hfz : ∀ q, w.frozen? ⟨b, q, none⟩ = false) (hb0 : b < w.heap.size) (hbB : B < w.heap.size) (hc : n ≤ c) (hm : n ≤ 17592186043904) (hx : (Lit.int .u64 x).wf = true) (hi : -9223372036854775808 ≤ i ∧ i ≤ 9223372036854775807) (h0 : w.cell? ⟨B, 0, none⟩ = some (.slice (some ⟨b, off, none⟩) n c)) (h1 : w.cell? ⟨B, 1, none⟩ = some (.int .i64 tn)) (t1 : tn ≤ n) (hb : there vs a = false) :
    Calls Try.prog 27 #[.pointer (some ⟨B, 0, none⟩), .int .i64 a, .int .i64 i, .int .u64 x] w fun e w' => e = .returned (.int .i64 1) ∧ Below w.heap.size w w' := by
  have HR := Lib.hid hr
  have HF := Lib.hid hf
  have HQ := Lib.hid hfz
  have hlen : vs.length = tn := by
    rcases hr with ⟨p, h, h'⟩ | ⟨b', off', c', h, _⟩
    · simp only [Value.slice.injEq] at h; rw [h']; simp; omega
    · simp only [Value.slice.injEq] at h; omega
  have HB0 := Lib.hid (And.intro hb0 hbB)
  clear hr hf hfz hb0 hbB
  go_enter Try.func27, Try.ntmps27
  go_wp2_with fail
  refine (viewof_at b off n c tn _ hc hm (by omega) (by omega)).mono ?_
  rintro e w1 ⟨rfl, hb1⟩
  rw [Int.toNat_natCast]
  have HB1 := Lib.hid hb1
  clear hb1 h0 h1
  go_wp2_with fail
  have hw1 : w1.heap.size < (w1.alloc (Obj.cells #[Value.slice (some ⟨b, off, none⟩) tn c] 95)).heap.size := by simp
  refine (look_any _ vs a _ (HR.out.keep (HB1.out.alloc HB1.out.size _)) HF.out).mono ?_
  rintro e w2 ⟨rfl, hb2⟩
  have HB2 := Lib.hid ((HB1.out.alloc HB1.out.size _).trans (hb2.mono (by have := HB1.out.size; simp; omega)))
  have hv2 : w2.cell? ⟨w1.heap.size, 0, none⟩ = some (.slice (some ⟨b, off, none⟩) tn c) := below_cell hb2 (by simp)
  have hs2 : w1.heap.size < w2.heap.size := by have := hb2.size; omega
  clear hb2 hw1
  rw [hb]
  go_wp2_with fail
  go_ret
  exact ⟨rfl, HB2.out⟩
set_option maxRecDepth 100000 in
set_option maxHeartbeats 400000 in
theorem set_has (B b off n c tn : Nat) (vs : List Int) (a i x : Int) (w : World) (hr : Rd w (.slice (some ⟨b, off, none⟩) tn c) vs) (hf : Fit vs) (hfz : ∀ q, w.frozen? ⟨b, q, none⟩ = false) (hb0 : b < w.heap.size) (hbB : B < w.heap.size) (hc : n ≤ c) (hm : n ≤ 17592186043904) (hx : (Lit.int .u64 x).wf = true) (hi : -9223372036854775808 ≤ i ∧ i ≤ 9223372036854775807) (h0 : w.cell? ⟨B, 0, none⟩ = some (.slice (some ⟨b, off, none⟩) n c)) (h1 : w.cell? ⟨B, 1, none⟩ = some (.int .i64 tn)) (t1 : tn ≤ n) (hb : there vs a = true) (hno : ¬ (0 ≤ i ∧ i < hS (headAt vs a) - 2)) :
    Calls Try.prog 27 #[.pointer (some ⟨B, 0, none⟩), .int .i64 a, .int .i64 i, .int .u64 x] w fun e w' => e = .returned (.int .i64 1) ∧ Below w.heap.size w w' := by
  have hhw : 0 ≤ headAt vs a ∧ headAt vs a ≤ 18446744073709551615 := by rw [(there_in hb).2.2.2.2]; exact hf.at _
  have hdd : (decide (0 ≤ i) && decide (i < hS (headAt vs a) - 2)) = false := by rw [Bool.and_eq_false_iff, decide_eq_false_iff_not, decide_eq_false_iff_not]; omega
  have HR := Lib.hid hr
  have HF := Lib.hid hf
  have HQ := Lib.hid hfz
  have hlen : vs.length = tn := by
    rcases hr with ⟨p, h, h'⟩ | ⟨b', off', c', h, _⟩
    · simp only [Value.slice.injEq] at h; rw [h']; simp; omega
    · simp only [Value.slice.injEq] at h; omega
  have HB0 := Lib.hid (And.intro hb0 hbB)
  clear hr hf hfz hb0 hbB
  go_enter Try.func27, Try.ntmps27
  go_wp2_with fail
  refine (viewof_at b off n c tn _ hc hm (by omega) (by omega)).mono ?_
  rintro e w1 ⟨rfl, hb1⟩
  rw [Int.toNat_natCast]
  have HB1 := Lib.hid hb1
  clear hb1 h0 h1
  go_wp2_with fail
  have hw1 : w1.heap.size < (w1.alloc (Obj.cells #[Value.slice (some ⟨b, off, none⟩) tn c] 95)).heap.size := by simp
  refine (look_any _ vs a _ (HR.out.keep (HB1.out.alloc HB1.out.size _)) HF.out).mono ?_
  rintro e w2 ⟨rfl, hb2⟩
  have HB2 := Lib.hid ((HB1.out.alloc HB1.out.size _).trans (hb2.mono (by have := HB1.out.size; simp; omega)))
  have hv2 : w2.cell? ⟨w1.heap.size, 0, none⟩ = some (.slice (some ⟨b, off, none⟩) tn c) := below_cell hb2 (by simp)
  have hs2 : w1.heap.size < w2.heap.size := by have := hb2.size; omega
  clear hb2 hw1
  rw [hb]
  go_wp2_with fail
  refine (hhas _ i hhw hi _).mono ?_
  rintro e w3 ⟨rfl, rfl⟩
  rw [hdd]
  go_wp2_with fail
  go_ret
  exact ⟨rfl, HB2.out⟩
set_option maxRecDepth 100000 in
set_option maxHeartbeats 400000 in
theorem set_type (B b off n c tn : Nat) (vs : List Int) (a i x : Int) (w : World) (hr : Rd w (.slice (some ⟨b, off, none⟩) tn c) vs) (hf : Fit vs) (hfz : ∀ q, w.frozen? ⟨b, q, none⟩ = false) (hb0 : b < w.heap.size) (hbB : B < w.heap.size) (hc : n ≤ c) (hm : n ≤ 17592186043904) (hx : (Lit.int .u64 x).wf = true) (hi : -9223372036854775808 ≤ i ∧ i ≤ 9223372036854775807) (h0 : w.cell? ⟨B, 0, none⟩ = some (.slice (some ⟨b, off, none⟩) n c)) (h1 : w.cell? ⟨B, 1, none⟩ = some (.int .i64 tn)) (t1 : tn ≤ n) (hb : there vs a = true) (hyes : 0 ≤ i ∧ i < hS (headAt vs a) - 2) (ht : i < hT (headAt vs a)) (hk : kindOf x = 3) :
    Calls Try.prog 27 #[.pointer (some ⟨B, 0, none⟩), .int .i64 a, .int .i64 i, .int .u64 x] w fun e w' => e = .returned (.int .i64 9) ∧ Below w.heap.size w w' := by
  have hhw : 0 ≤ headAt vs a ∧ headAt vs a ≤ 18446744073709551615 := by rw [(there_in hb).2.2.2.2]; exact hf.at _
  have hdd : (decide (0 ≤ i) && decide (i < hS (headAt vs a) - 2)) = true := by rw [Bool.and_eq_true, decide_eq_true_iff, decide_eq_true_iff]; omega
  have HR := Lib.hid hr
  have HF := Lib.hid hf
  have HQ := Lib.hid hfz
  have hlen : vs.length = tn := by
    rcases hr with ⟨p, h, h'⟩ | ⟨b', off', c', h, _⟩
    · simp only [Value.slice.injEq] at h; rw [h']; simp; omega
    · simp only [Value.slice.injEq] at h; omega
  have HB0 := Lib.hid (And.intro hb0 hbB)
  clear hr hf hfz hb0 hbB
  go_enter Try.func27, Try.ntmps27
  go_wp2_with fail
  refine (viewof_at b off n c tn _ hc hm (by omega) (by omega)).mono ?_
  rintro e w1 ⟨rfl, hb1⟩
  rw [Int.toNat_natCast]
  have HB1 := Lib.hid hb1
  clear hb1 h0 h1
  go_wp2_with fail
  have hw1 : w1.heap.size < (w1.alloc (Obj.cells #[Value.slice (some ⟨b, off, none⟩) tn c] 95)).heap.size := by simp
  refine (look_any _ vs a _ (HR.out.keep (HB1.out.alloc HB1.out.size _)) HF.out).mono ?_
  rintro e w2 ⟨rfl, hb2⟩
  have HB2 := Lib.hid ((HB1.out.alloc HB1.out.size _).trans (hb2.mono (by have := HB1.out.size; simp; omega)))
  have hv2 : w2.cell? ⟨w1.heap.size, 0, none⟩ = some (.slice (some ⟨b, off, none⟩) tn c) := below_cell hb2 (by simp)
  have hs2 : w1.heap.size < w2.heap.size := by have := hb2.size; omega
  clear hb2 hw1
  rw [hb]
  go_wp2_with fail
  refine (hhas _ i hhw hi _).mono ?_
  rintro e w3 ⟨rfl, rfl⟩
  rw [hdd]
  go_wp2_with fail
  refine (htag _ hhw _).mono ?_
  rintro e w3 ⟨rfl, rfl⟩
  go_wp2_with fail
  refine (kind_any x hx _).mono ?_
  rintro e w3 ⟨rfl, rfl⟩
  rw [hk]
  go_wp2_with fail
  go_ret
  exact ⟨rfl, HB2.out⟩
set_option maxRecDepth 100000 in
set_option maxHeartbeats 400000 in
theorem set_good (B b off n c tn : Nat) (vs : List Int) (a i x : Int) (w : World) (hr : Rd w (.slice (some ⟨b, off, none⟩) tn c) vs) (hf : Fit vs) (hfz : ∀ q, w.frozen? ⟨b, q, none⟩ = false) (hb0 : b < w.heap.size) (hbB : B < w.heap.size) (hc : n ≤ c) (hm : n ≤ 17592186043904) (hx : (Lit.int .u64 x).wf = true) (hi : -9223372036854775808 ≤ i ∧ i ≤ 9223372036854775807) (h0 : w.cell? ⟨B, 0, none⟩ = some (.slice (some ⟨b, off, none⟩) n c)) (h1 : w.cell? ⟨B, 1, none⟩ = some (.int .i64 tn)) (t1 : tn ≤ n) (hb : there vs a = true) (hyes : 0 ≤ i ∧ i < hS (headAt vs a) - 2) (hk : ¬ (i < hT (headAt vs a) ∧ kindOf x = 3)) :
    Calls Try.prog 27 #[.pointer (some ⟨B, 0, none⟩), .int .i64 a, .int .i64 i, .int .u64 x] w fun e w' => e = .returned (.int .i64 0) ∧ ∃ w1, Below w.heap.size w w1 ∧ w' = w1.setCell ⟨b, off + (a.toNat + 2 + i.toNat), none⟩ (.int .u64 x) := by
  obtain ⟨A, rfl⟩ := Int.eq_ofNat_of_zero_le (by have := (there_in hb).1; omega : 0 ≤ a)
  obtain ⟨I, rfl⟩ := Int.eq_ofNat_of_zero_le hyes.1
  rw [Int.toNat_natCast, Int.toNat_natCast]
  have HIN := Lib.hid (there_in hb)
  have hhw : 0 ≤ headAt vs (A : Int) ∧ headAt vs (A : Int) ≤ 18446744073709551615 := by rw [(there_in hb).2.2.2.2]; exact hf.at _
  have hdd : (decide (0 ≤ (I : Int)) && decide ((I : Int) < hS (headAt vs (A : Int)) - 2)) = true := by rw [Bool.and_eq_true, decide_eq_true_iff, decide_eq_true_iff]; omega
  have HR := Lib.hid hr
  have HF := Lib.hid hf
  have HQ := Lib.hid hfz
  have hlen : vs.length = tn := by
    rcases hr with ⟨p, h, h'⟩ | ⟨b', off', c', h, _⟩
    · simp only [Value.slice.injEq] at h; rw [h']; simp; omega
    · simp only [Value.slice.injEq] at h; omega
  have HB0 := Lib.hid (And.intro hb0 hbB)
  clear hr hf hfz hb0 hbB
  go_enter Try.func27, Try.ntmps27
  go_wp2_with fail
  refine (viewof_at b off n c tn _ hc hm (by omega) (by omega)).mono ?_
  rintro e w1 ⟨rfl, hb1⟩
  rw [Int.toNat_natCast]
  have HB1 := Lib.hid hb1
  clear hb1 h0 h1
  go_wp2_with fail
  have hw1 : w1.heap.size < (w1.alloc (Obj.cells #[Value.slice (some ⟨b, off, none⟩) tn c] 95)).heap.size := by simp
  refine (look_any _ vs (A : Int) _ (HR.out.keep (HB1.out.alloc HB1.out.size _)) HF.out).mono ?_
  rintro e w2 ⟨rfl, hb2⟩
  have HB2 := Lib.hid ((HB1.out.alloc HB1.out.size _).trans (hb2.mono (by have := HB1.out.size; simp; omega)))
  have hv2 : w2.cell? ⟨w1.heap.size, 0, none⟩ = some (.slice (some ⟨b, off, none⟩) tn c) := below_cell hb2 (by simp)
  have hs2 : w1.heap.size < w2.heap.size := by have := hb2.size; omega
  clear hb2 hw1
  rw [hb]
  go_wp2_with fail
  refine (hhas _ (I : Int) hhw hi _).mono ?_
  rintro e w3 ⟨rfl, rfl⟩
  rw [hdd]
  have hin := HIN.out
  clear HIN
  have hq : A + 2 + I < tn := by omega
  have hrow2 : w2.cell? ⟨b, off + (A + 2 + I), none⟩ = some (.int .u64 (vs.getD (A + 2 + I) 0)) := by
    rcases HR.out with ⟨p, h, h'⟩ | ⟨b', off', c', h, h2, h3, h4⟩
    · simp only [Value.slice.injEq] at h; omega
    · simp only [Value.slice.injEq, Option.some.injEq, Addr.mk.injEq] at h
      obtain ⟨⟨rfl, rfl, _⟩, _, rfl⟩ := h
      exact below_cell HB2.out (h4 _ (by omega))
  have hfr2 : w2.frozen? ⟨b, off + (A + 2 + I), none⟩ = false := (World.frozen?_of_block (a := ⟨b, off + (A + 2 + I), none⟩) (HB2.out.block b HB0.out.1)).trans (HQ.out _)
  generalize vs.getD (A + 2 + I) 0 = z0 at hrow2
  have hqi : (A : Int) + 2 + (I : Int) < (tn : Int) := by omega
  have htn : tn ≤ c := by omega
  clear hin HR
  by_cases ht : (I : Int) < hT (headAt vs (A : Int))
  · have hk2 : kindOf x ≠ 3 := fun e => hk ⟨ht, e⟩
    have hk3 : (kindOf x == 3) = false := by simpa using hk2
    go_wp2_with fail
    refine (htag _ hhw _).mono ?_
    rintro e w3 ⟨rfl, rfl⟩
    go_wp2_with fail
    refine (kind_any x hx _).mono ?_
    rintro e w3 ⟨rfl, rfl⟩
    go_wp2_with fail
    go_ret
    exact ⟨rfl, w2, HB2.out, rfl⟩
  · go_wp2_with fail
    refine (htag _ hhw _).mono ?_
    rintro e w3 ⟨rfl, rfl⟩
    go_wp2_with fail
    go_ret
    exact ⟨rfl, w2, HB2.out, rfl⟩
end Go.Proofs.Ytilonacjmihglaa
