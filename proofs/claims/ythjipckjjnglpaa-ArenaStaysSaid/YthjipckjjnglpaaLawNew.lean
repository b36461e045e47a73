/- The law of ArenaNew, walked: it answers true and changes nothing that was there. -/
import Derived.Test.YthjipckjjnglpaaRefAllNo
import Derived.Test.YthjipckjjnglpaaKnown13
import Derived.Test.YthjipckjjnglpaaNew
import Derived.Deep.RegionHeld3
namespace Go.Proofs.Ythjipckjjnglpaa
open Go.ChangeShapes Go.WideShapes Go.ChangeAt Go.RowKit
set_option linter.unusedVariables false
set_option linter.unusedSimpArgs false
set_option maxRecDepth 100000 in
set_option maxHeartbeats 1000000 in
theorem lawNew_lo (n : Int) (v : Value) (ws : List Int) (top : Int) (w : World) (w0 : (Lit.int .i64 n).wf = true) (hlo : n < 2) (hr : Rd w v ws) (hf : Fit ws) (ht : -9223372036854775808 ≤ top ∧ top ≤ 9223372036854775807) :
    Calls Try.prog 3 #[.int .i64 n, .agg #[v, .int .i64 top]] w fun e w' => e = .returned (.bool true) ∧ Below w.heap.size w w' := by
  have hn := wfi w0
  have hv1 : ∃ p n c, v = .slice p n c := by
    rcases hr with ⟨p0, rfl, rfl⟩ | ⟨b, off, c, rfl, hl, hc, hcell⟩
    · exact ⟨p0, 0, 0, rfl⟩
    · exact ⟨_, _, _, rfl⟩
  obtain ⟨vp, vn, vc, rfl⟩ := hv1
  have HR := Lib.hid hr
  clear hr
  go_enter Try.func3, Try.ntmps3
  go_wp2_with fail
  refine (known _).mono ?_
  rintro e w1 ⟨rfl, hb1⟩
  have hB1 : Below w.heap.size w w1 := ((Below.refl _ _).alloc (Nat.le_refl _) _).trans (hb1.mono (by simp))
  have hx0 := below_cell hb1 (a := ⟨w.heap.size, 0, none⟩) (v := .slice vp vn vc) (by simp)
  have hx1 := below_cell hb1 (a := ⟨w.heap.size, 1, none⟩) (v := .int .i64 top) (by simp)
  clear hb1
  go_wp2_with fail
  refine (refall_any _ ws top _ (HR.out.keep hB1) hf ht).mono ?_
  rintro e w2 ⟨hb2, u1, rfl, ho1⟩
  have hB2 := hB1.trans (hb2.mono hB1.size)
  have hy0 := below_cell hb2 hx0
  have hy1 := below_cell hb2 hx1
  clear hb2 ho1 hx0 hx1
  go_wp2_with fail
  refine (check_any _ ws top _ (HR.out.keep hB2) hf ht).mono ?_
  rintro e w3 ⟨rfl, hb3⟩
  have hB3 := hB2.trans (hb3.mono hB2.size)
  have hz0 := below_cell hb3 hy0
  have hz1 := below_cell hb3 hy1
  clear hb3 hy0 hy1
  cases hm : memOk ws top
  · have hce : checkE ws top = 3 := by unfold checkE; rw [hm]; rfl
    rw [hce]
    go_wp2_with fail
    refine (check_any _ ws top _ (HR.out.keep hB3) hf ht).mono ?_
    rintro e w4 ⟨rfl, hb4⟩
    have hB4 := hB3.trans (hb4.mono hB3.size)
    rw [hce]
    clear hce hb4 hz0 hz1
    go_wp2_with fail
    refine (new_bad n w0 (by omega) _).mono ?_
    rintro e w5 ⟨rfl, hb5⟩
    go_wp2_with fail
    go_ret
    exact ⟨rfl, (hB4.trans (hb5.mono hB4.size)).alloc (hB4.trans (hb5.mono hB4.size)).size _⟩
  · have hce : checkE ws top = 0 := by unfold checkE; rw [hm]; rfl
    rw [hce]
    clear hce hz0 hz1
    go_wp2_with fail
    refine (new_bad n w0 (by omega) _).mono ?_
    rintro e w5 ⟨rfl, hb5⟩
    go_wp2_with fail
    go_ret
    exact ⟨rfl, (hB3.trans (hb5.mono hB3.size)).alloc (hB3.trans (hb5.mono hB3.size)).size _⟩
set_option maxRecDepth 100000 in
set_option maxHeartbeats 1000000 in
theorem lawNew_hi (n : Int) (v : Value) (ws : List Int) (top : Int) (w : World) (w0 : (Lit.int .i64 n).wf = true) (hhi : 1048576 < n) (hr : Rd w v ws) (hf : Fit ws) (ht : -9223372036854775808 ≤ top ∧ top ≤ 9223372036854775807) :
    Calls Try.prog 3 #[.int .i64 n, .agg #[v, .int .i64 top]] w fun e w' => e = .returned (.bool true) ∧ Below w.heap.size w w' := by
  have hn := wfi w0
  have hv1 : ∃ p n c, v = .slice p n c := by
    rcases hr with ⟨p0, rfl, rfl⟩ | ⟨b, off, c, rfl, hl, hc, hcell⟩
    · exact ⟨p0, 0, 0, rfl⟩
    · exact ⟨_, _, _, rfl⟩
  obtain ⟨vp, vn, vc, rfl⟩ := hv1
  have HR := Lib.hid hr
  clear hr
  go_enter Try.func3, Try.ntmps3
  go_wp2_with fail
  refine (known _).mono ?_
  rintro e w1 ⟨rfl, hb1⟩
  have hB1 : Below w.heap.size w w1 := ((Below.refl _ _).alloc (Nat.le_refl _) _).trans (hb1.mono (by simp))
  have hx0 := below_cell hb1 (a := ⟨w.heap.size, 0, none⟩) (v := .slice vp vn vc) (by simp)
  have hx1 := below_cell hb1 (a := ⟨w.heap.size, 1, none⟩) (v := .int .i64 top) (by simp)
  clear hb1
  go_wp2_with fail
  refine (refall_any _ ws top _ (HR.out.keep hB1) hf ht).mono ?_
  rintro e w2 ⟨hb2, u1, rfl, ho1⟩
  have hB2 := hB1.trans (hb2.mono hB1.size)
  have hy0 := below_cell hb2 hx0
  have hy1 := below_cell hb2 hx1
  clear hb2 ho1 hx0 hx1
  go_wp2_with fail
  refine (check_any _ ws top _ (HR.out.keep hB2) hf ht).mono ?_
  rintro e w3 ⟨rfl, hb3⟩
  have hB3 := hB2.trans (hb3.mono hB2.size)
  have hz0 := below_cell hb3 hy0
  have hz1 := below_cell hb3 hy1
  clear hb3 hy0 hy1
  cases hm : memOk ws top
  · have hce : checkE ws top = 3 := by unfold checkE; rw [hm]; rfl
    rw [hce]
    go_wp2_with fail
    refine (check_any _ ws top _ (HR.out.keep hB3) hf ht).mono ?_
    rintro e w4 ⟨rfl, hb4⟩
    have hB4 := hB3.trans (hb4.mono hB3.size)
    rw [hce]
    clear hce hb4 hz0 hz1
    go_wp2_with fail
    refine (new_bad n w0 (by omega) _).mono ?_
    rintro e w5 ⟨rfl, hb5⟩
    go_wp2_with fail
    go_ret
    exact ⟨rfl, (hB4.trans (hb5.mono hB4.size)).alloc (hB4.trans (hb5.mono hB4.size)).size _⟩
  · have hce : checkE ws top = 0 := by unfold checkE; rw [hm]; rfl
    rw [hce]
    clear hce hz0 hz1
    go_wp2_with fail
    refine (new_bad n w0 (by omega) _).mono ?_
    rintro e w5 ⟨rfl, hb5⟩
    go_wp2_with fail
    go_ret
    exact ⟨rfl, (hB3.trans (hb5.mono hB3.size)).alloc (hB3.trans (hb5.mono hB3.size)).size _⟩
set_option maxRecDepth 100000 in
set_option maxHeartbeats 1000000 in
theorem lawNew_good (n : Int) (v : Value) (ws : List Int) (top : Int) (w : World) (w0 : (Lit.int .i64 n).wf = true) (N : Nat) (hgd : 2 ≤ N ∧ N ≤ 70000) (hN : n = N) (hr : Rd w v ws) (hf : Fit ws) (ht : -9223372036854775808 ≤ top ∧ top ≤ 9223372036854775807) :
    Calls Try.prog 3 #[.int .i64 n, .agg #[v, .int .i64 top]] w fun e w' => e = .returned (.bool true) ∧ Below w.heap.size w w' := by
  subst hN
  have hn := wfi w0
  have hv1 : ∃ p n c, v = .slice p n c := by
    rcases hr with ⟨p0, rfl, rfl⟩ | ⟨b, off, c, rfl, hl, hc, hcell⟩
    · exact ⟨p0, 0, 0, rfl⟩
    · exact ⟨_, _, _, rfl⟩
  obtain ⟨vp, vn, vc, rfl⟩ := hv1
  have HR := Lib.hid hr
  clear hr
  go_enter Try.func3, Try.ntmps3
  go_wp2_with fail
  refine (known _).mono ?_
  rintro e w1 ⟨rfl, hb1⟩
  have hB1 : Below w.heap.size w w1 := ((Below.refl _ _).alloc (Nat.le_refl _) _).trans (hb1.mono (by simp))
  have hx0 := below_cell hb1 (a := ⟨w.heap.size, 0, none⟩) (v := .slice vp vn vc) (by simp)
  have hx1 := below_cell hb1 (a := ⟨w.heap.size, 1, none⟩) (v := .int .i64 top) (by simp)
  clear hb1
  go_wp2_with fail
  refine (refall_any _ ws top _ (HR.out.keep hB1) hf ht).mono ?_
  rintro e w2 ⟨hb2, u1, rfl, ho1⟩
  have hB2 := hB1.trans (hb2.mono hB1.size)
  have hy0 := below_cell hb2 hx0
  have hy1 := below_cell hb2 hx1
  clear hb2 ho1 hx0 hx1
  go_wp2_with fail
  refine (check_any _ ws top _ (HR.out.keep hB2) hf ht).mono ?_
  rintro e w3 ⟨rfl, hb3⟩
  have hB3 := hB2.trans (hb3.mono hB2.size)
  have hz0 := below_cell hb3 hy0
  have hz1 := below_cell hb3 hy1
  clear hb3 hy0 hy1
  cases hm : memOk ws top
  · have hce : checkE ws top = 3 := by unfold checkE; rw [hm]; rfl
    rw [hce]
    go_wp2_with fail
    refine (check_any _ ws top _ (HR.out.keep hB3) hf ht).mono ?_
    rintro e w4 ⟨rfl, hb4⟩
    have hB4 := hB3.trans (hb4.mono hB3.size)
    rw [hce]
    clear hce hb4 hz0 hz1
    go_wp2_with fail
    refine (new_good N ⟨hgd.1, by omega⟩ _).mono ?_
    rintro e w5 ⟨g, rfl, hg, hrow, hb5⟩
    have hBB := (hB4.trans (hb5.mono hB4.size)).alloc (hB4.trans (hb5.mono hB4.size)).size (Obj.cells #[Value.slice (some ⟨g, 0, none⟩) N N, Value.int .i64 1] 24)
    have hcl : Hid (∀ k, k < N → ∀ o, (w5.alloc o).cell? ⟨g, k, none⟩ = some (.int .u64 0)) := fun k hk o => (hrow.alloc o).cell hk
    clear hrow hb5
    go_wp2_with fail
    go_loop [9] (fun s => ∃ k : Nat, s = .int .i64 k ∧ k ≤ N) (fun s => N - (intOf s).toNat)
    case atStart => exact ⟨0, by go_num, Nat.zero_le _⟩
    case round =>
      obtain ⟨k, rfl, hk⟩ := hrel
      by_cases hlt : k < N
      · have hc := hcl.out k hlt
        go_wp2_with fail
        go_round
        case rel => exact ⟨k + 1, by go_num, by omega⟩
        case measure => simp [intOf]; omega
      · go_wp2_with fail
        go_ret
        exact ⟨rfl, hBB⟩
  · have hce : checkE ws top = 0 := by unfold checkE; rw [hm]; rfl
    rw [hce]
    clear hce hz0 hz1
    go_wp2_with fail
    refine (new_good N ⟨hgd.1, by omega⟩ _).mono ?_
    rintro e w5 ⟨g, rfl, hg, hrow, hb5⟩
    have hBB := (hB3.trans (hb5.mono hB3.size)).alloc (hB3.trans (hb5.mono hB3.size)).size (Obj.cells #[Value.slice (some ⟨g, 0, none⟩) N N, Value.int .i64 1] 24)
    have hcl : Hid (∀ k, k < N → ∀ o, (w5.alloc o).cell? ⟨g, k, none⟩ = some (.int .u64 0)) := fun k hk o => (hrow.alloc o).cell hk
    clear hrow hb5
    go_wp2_with fail
    go_loop [9] (fun s => ∃ k : Nat, s = .int .i64 k ∧ k ≤ N) (fun s => N - (intOf s).toNat)
    case atStart => exact ⟨0, by go_num, Nat.zero_le _⟩
    case round =>
      obtain ⟨k, rfl, hk⟩ := hrel
      by_cases hlt : k < N
      · have hc := hcl.out k hlt
        go_wp2_with fail
        go_round
        case rel => exact ⟨k + 1, by go_num, by omega⟩
        case measure => simp [intOf]; omega
      · go_wp2_with fail
        go_ret
        exact ⟨rfl, hBB⟩
set_option maxRecDepth 100000 in
set_option maxHeartbeats 1000000 in
theorem lawNew_big (n : Int) (v : Value) (ws : List Int) (top : Int) (w : World) (w0 : (Lit.int .i64 n).wf = true) (hbig : 70000 < n ∧ n ≤ 1048576) (hr : Rd w v ws) (hf : Fit ws) (ht : -9223372036854775808 ≤ top ∧ top ≤ 9223372036854775807) :
    Calls Try.prog 3 #[.int .i64 n, .agg #[v, .int .i64 top]] w fun e w' => e = .returned (.bool true) ∧ Below w.heap.size w w' := by
  have hn := wfi w0
  have hv1 : ∃ p n c, v = .slice p n c := by
    rcases hr with ⟨p0, rfl, rfl⟩ | ⟨b, off, c, rfl, hl, hc, hcell⟩
    · exact ⟨p0, 0, 0, rfl⟩
    · exact ⟨_, _, _, rfl⟩
  obtain ⟨vp, vn, vc, rfl⟩ := hv1
  have HR := Lib.hid hr
  clear hr
  go_enter Try.func3, Try.ntmps3
  go_wp2_with fail
  refine (known _).mono ?_
  rintro e w1 ⟨rfl, hb1⟩
  have hB1 : Below w.heap.size w w1 := ((Below.refl _ _).alloc (Nat.le_refl _) _).trans (hb1.mono (by simp))
  have hx0 := below_cell hb1 (a := ⟨w.heap.size, 0, none⟩) (v := .slice vp vn vc) (by simp)
  have hx1 := below_cell hb1 (a := ⟨w.heap.size, 1, none⟩) (v := .int .i64 top) (by simp)
  clear hb1
  go_wp2_with fail
  refine (refall_any _ ws top _ (HR.out.keep hB1) hf ht).mono ?_
  rintro e w2 ⟨hb2, u1, rfl, ho1⟩
  have hB2 := hB1.trans (hb2.mono hB1.size)
  have hy0 := below_cell hb2 hx0
  have hy1 := below_cell hb2 hx1
  clear hb2 ho1 hx0 hx1
  go_wp2_with fail
  refine (check_any _ ws top _ (HR.out.keep hB2) hf ht).mono ?_
  rintro e w3 ⟨rfl, hb3⟩
  have hB3 := hB2.trans (hb3.mono hB2.size)
  have hz0 := below_cell hb3 hy0
  have hz1 := below_cell hb3 hy1
  clear hb3 hy0 hy1
  cases hm : memOk ws top
  · have hce : checkE ws top = 3 := by unfold checkE; rw [hm]; rfl
    rw [hce]
    go_wp2_with fail
    refine (check_any _ ws top _ (HR.out.keep hB3) hf ht).mono ?_
    rintro e w4 ⟨rfl, hb4⟩
    have hB4 := hB3.trans (hb4.mono hB3.size)
    rw [hce]
    clear hce hb4 hz0 hz1
    go_wp2_with fail
    obtain ⟨N, hN⟩ : ∃ N : Nat, N = 70000 := ⟨_, rfl⟩
    have hN1 : 2 ≤ N ∧ N ≤ 70000 := by omega
    rw [show (70000 : Int) = (N : Int) by omega]
    clear hN
    refine (new_good N ⟨hN1.1, by omega⟩ _).mono ?_
    rintro e w5 ⟨g, rfl, hg, hrow, hb5⟩
    have hBB := (hB4.trans (hb5.mono hB4.size)).alloc (hB4.trans (hb5.mono hB4.size)).size (Obj.cells #[Value.slice (some ⟨g, 0, none⟩) N N, Value.int .i64 1] 24)
    have hcl : Hid (∀ k, k < N → ∀ o, (w5.alloc o).cell? ⟨g, k, none⟩ = some (.int .u64 0)) := fun k hk o => (hrow.alloc o).cell hk
    clear hrow hb5
    go_wp2_with fail
    go_loop [9] (fun s => ∃ k : Nat, s = .int .i64 k ∧ k ≤ N) (fun s => N - (intOf s).toNat)
    case atStart => exact ⟨0, by go_num, Nat.zero_le _⟩
    case round =>
      obtain ⟨k, rfl, hk⟩ := hrel
      by_cases hlt : k < N
      · have hc := hcl.out k hlt
        go_wp2_with fail
        go_round
        case rel => exact ⟨k + 1, by go_num, by omega⟩
        case measure => simp [intOf]; omega
      · go_wp2_with fail
        go_ret
        exact ⟨rfl, hBB⟩
  · have hce : checkE ws top = 0 := by unfold checkE; rw [hm]; rfl
    rw [hce]
    clear hce hz0 hz1
    go_wp2_with fail
    obtain ⟨N, hN⟩ : ∃ N : Nat, N = 70000 := ⟨_, rfl⟩
    have hN1 : 2 ≤ N ∧ N ≤ 70000 := by omega
    rw [show (70000 : Int) = (N : Int) by omega]
    clear hN
    refine (new_good N ⟨hN1.1, by omega⟩ _).mono ?_
    rintro e w5 ⟨g, rfl, hg, hrow, hb5⟩
    have hBB := (hB3.trans (hb5.mono hB3.size)).alloc (hB3.trans (hb5.mono hB3.size)).size (Obj.cells #[Value.slice (some ⟨g, 0, none⟩) N N, Value.int .i64 1] 24)
    have hcl : Hid (∀ k, k < N → ∀ o, (w5.alloc o).cell? ⟨g, k, none⟩ = some (.int .u64 0)) := fun k hk o => (hrow.alloc o).cell hk
    clear hrow hb5
    go_wp2_with fail
    go_loop [9] (fun s => ∃ k : Nat, s = .int .i64 k ∧ k ≤ N) (fun s => N - (intOf s).toNat)
    case atStart => exact ⟨0, by go_num, Nat.zero_le _⟩
    case round =>
      obtain ⟨k, rfl, hk⟩ := hrel
      by_cases hlt : k < N
      · have hc := hcl.out k hlt
        go_wp2_with fail
        go_round
        case rel => exact ⟨k + 1, by go_num, by omega⟩
        case measure => simp [intOf]; omega
      · go_wp2_with fail
        go_ret
        exact ⟨rfl, hBB⟩
theorem lawNew (n : Int) (v : Value) (ws : List Int) (top : Int) (w : World) (w0 : (Lit.int .i64 n).wf = true) (hr : Rd w v ws) (hf : Fit ws) (ht : -9223372036854775808 ≤ top ∧ top ≤ 9223372036854775807) :
    Calls Try.prog 3 #[.int .i64 n, .agg #[v, .int .i64 top]] w fun e w' => e = .returned (.bool true) ∧ Below w.heap.size w w' := by
  by_cases h1 : n < 2
  · exact lawNew_lo n v ws top w w0 h1 hr hf ht
  · by_cases h2 : 1048576 < n
    · exact lawNew_hi n v ws top w w0 h2 hr hf ht
    · by_cases h3 : 70000 < n
      · exact lawNew_big n v ws top w w0 ⟨h3, by omega⟩ hr hf ht
      · exact lawNew_good n v ws top w w0 n.toNat ⟨by omega, by omega⟩ (by omega) hr hf ht
end Go.Proofs.Ythjipckjjnglpaa
