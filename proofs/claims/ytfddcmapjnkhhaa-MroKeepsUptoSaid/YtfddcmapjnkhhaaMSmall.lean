/- Layer 19: slices.Index, Contains, Clone; the document's Order. -/
import Derived.Test.YtfddcmapjnkhhaaMRefOrders
import Derived.Lib.LazyBuf
namespace Go.Proofs.Ytfddcmapjnkhhaa
open Go.ChangeShapes Go.WideShapes Go.RowKit
set_option linter.unusedVariables false
set_option linter.unusedSimpArgs false
theorem addO (b off j : Nat) : (⟨b, off, none⟩ : Addr).add j = ⟨b, off + j, none⟩ := by cases j <;> simp [Addr.add]
def indexI (l : List Int) (n : Int) : Int := if hasFrom l 0 n then 0 else -1
set_option maxRecDepth 100000 in
set_option maxHeartbeats 1000000 in
theorem index_any (u : Value) (l : List Int) (n : Int) (w : World) (h : Ri w u l) :
    Calls Try.prog 22 #[u, .int .i64 n] w fun e w' => ∃ r : Int, e = .returned (.int .i64 r) ∧ (hasFrom l 0 n = true → 0 ≤ r) ∧ (hasFrom l 0 n = false → r = -1) ∧ w = w' := by
  obtain ⟨p, c, rfl, hc, hm, hp⟩ := ri_form h
  have HP := Lib.hid hp
  clear hp h
  go_enter Try.func22, Try.ntmps22
  go_wp2
  go_loop [5, 8] (fun a s => ∃ i : Nat, s = .int .i64 i ∧ i ≤ l.length ∧ ∀ j, j < i → l.getD j 0 ≠ n) (fun _ s => l.length - (intOf s).toNat)
  case atStart => exact ⟨0, rfl, Nat.zero_le _, fun j h => by omega⟩
  case round =>
    obtain ⟨i, rfl, hil, hno⟩ := hrel
    have HN := Lib.hid hno
    clear hno
    by_cases hlt : i < l.length
    · obtain ⟨b, off, rfl, hcell⟩ := HP.out (by omega)
      have hci := hcell i hlt
      obtain ⟨x, hx⟩ : ∃ x, l.getD i 0 = x := ⟨_, rfl⟩
      rw [hx] at hci
      have HXE := Lib.hid hx
      have hlz : (i : Int) < (l.length : Int) := by omega
      clear hcell hx
      by_cases he : n = x
      · subst he
        have HY := Lib.hid (hasFrom_yes (k := 0) (Nat.zero_le _) hlt HXE.out)
        go_wp2
        go_ret
        exact ⟨i, rfl, fun _ => by omega, fun h => (by rw [HY.out] at h; cases h), rfl⟩
      · have hne : (n == x) = false := by rw [beq_eq_false_iff_ne]; exact he
        have HNE := Lib.hid he
        clear he
        go_wp2
        go_round
        case rel => exact ⟨i + 1, by go_num, by omega, fun j h2 => by
          by_cases e : j = i
          · subst e; rw [HXE.out]; exact fun e => HNE.out e.symm
          · exact HN.out j (by omega)⟩
        case measure => simp [intOf]; omega
    · have hlz : ¬ (i : Int) < (l.length : Int) := by omega
      have HY := Lib.hid (hasFrom_no (l := l) (k := 0) (n := n) fun j h1 h2 => HN.out j (by omega))
      go_wp2
      go_ret
      exact ⟨-1, rfl, fun h => (by rw [HY.out] at h; cases h), fun _ => rfl, rfl⟩
set_option maxHeartbeats 1000000 in
theorem contains_any (u : Value) (l : List Int) (n : Int) (w : World) (h : Ri w u l) :
    Calls Try.prog 19 #[u, .int .i64 n] w fun e w' => e = .returned (.bool (hasFrom l 0 n)) ∧ w = w' := by
  have HI := Lib.hid (index_any u l n w h)
  go_enter Try.func19, Try.ntmps19
  go_wp2_with (go_at_call 22; (with_reducible refine HI.out.mono ?_); rintro e w' ⟨r, rfl, h1, h2, rfl⟩; have H1 := Lib.hid h1; have H2 := Lib.hid h2; clear h1 h2)
  go_ret
  refine ⟨ret_b ?_, rfl⟩
  cases hh : hasFrom l 0 n with
  | true => have := H1.out hh; simp; omega
  | false => have := H2.out hh; subst this; simp
set_option maxHeartbeats 1000000 in
theorem below_any (u : Value) (l : List Int) (n : Int) (w : World) (h : Ri w u l) :
    Calls Try.prog 10 #[u, .int .i64 n] w fun e w' => e = .returned (.bool (hasFrom l 0 n)) ∧ w = w' := by
  have HI := Lib.hid (contains_any u l n w h)
  go_enter Try.func10, Try.ntmps10
  go_wp2_with (go_at_call 19; (with_reducible refine HI.out.mono ?_); rintro e w' ⟨rfl, rfl⟩)
  go_ret
  exact ⟨rfl, rfl⟩
set_option maxRecDepth 100000 in
set_option maxHeartbeats 2000000 in
/-- A copy of a slice that holds something. -/
theorem clone_any (b off n c : Nat) (l : List Int) (w : World) (h : Ri w (.slice (some ⟨b, off, none⟩) n c) l) (hl : l.length ≤ 1000) :
    Calls Try.prog 16 #[.slice (some ⟨b, off, none⟩) n c] w fun e w' => ∃ v, e = .returned v ∧ OI w' w.heap.size v l ∧ Below w.heap.size w w' := by
  obtain ⟨i0, hi, hz0, hz1, hz2⟩ := info_parts infoInt
  have eq1 := fun (wx : World) => Lib.run_eql_slice_nil (P := Try.prog) wx 24 3 (some ⟨b, off, none⟩) n c 0 0 Try.underlying24
  obtain ⟨hn, hcells⟩ : n = l.length ∧ ∀ i, i < l.length → w.cell? ⟨b, off + i, none⟩ = some (.int .i64 (l.getD i 0)) := by
    rcases h with ⟨p, e, rfl⟩ | ⟨b', off', c', e, h1, h2, h3⟩
    · simp only [Value.slice.injEq] at e
      exact ⟨e.2.1, fun i hi => by simp at hi⟩
    · simp only [Value.slice.injEq, Option.some.injEq, Addr.mk.injEq] at e
      obtain ⟨⟨rfl, rfl, _⟩, rfl, _⟩ := e
      exact ⟨rfl, h3⟩
  subst hn
  have HN := Lib.hid (show ∀ j u, (l.map (Value.int .i64))[j]? = some u → (w.alloc (.cells #[] 3)).cell? ((⟨b, off, none⟩ : Addr).add j) = some u from by
    intro j u hj
    rw [List.getElem?_map] at hj
    cases hr : l[j]? with
    | none => rw [hr] at hj; cases hj
    | some y =>
      rw [hr] at hj
      have hjl : j < l.length := (List.getElem?_eq_some_iff.1 hr).1
      have h5 := hcells j hjl
      rw [List.getD_eq_getElem?_getD, hr] at h5
      simp only [Option.map_some, Option.some.injEq] at hj
      refine alloc_cell ?_ _
      rw [← hj, addO]
      exact h5)
  have HO := Lib.hid (show (w.alloc (.cells #[] 3)).ownsRow w.heap.size 3 1 (.slice (some ⟨w.heap.size, 0, none⟩) 0 0) 0 [] from
    ⟨rfl, .inr ⟨w.heap.size, 0, #[], rfl, Nat.le_refl _, heap_alloc_new w _, Nat.le_refl _, by unfold maxLen; omega, rfl, rfl⟩⟩)
  clear h hcells
  go_enter Try.func16, Try.ntmps16
  go_wp2_with (at_builtin; refine wpList_append_own _ rfl _ _ 24 rfl w.heap.size 3 i0 (.int .i64 0) 1 8 Try.underlying24 hi hz0 hz1 hz2 rfl (by decide) _ _ _ rfl HO.out ⟨b, off, none⟩ l.length c (l.map (Value.int .i64)) rfl (by simp) HN.out (by simp [Value.oneCell']) (by unfold maxLen; omega) (by omega) (by simp) ?_; intro v' w3 hown hgrow _; have HW := Lib.hid hown; have HG := Lib.hid hgrow; clear hown hgrow)
  go_ret
  refine ⟨v', rfl, ?_, ?_⟩
  · have h := HW.out
    unfold OI OW
    rw [Nat.zero_add, List.nil_append] at h
    exact h
  · exact ((Below.refl _ _).alloc (Nat.le_refl _) _).grown HG.out (by simp) (fun q hq => Nat.le_of_eq (Option.some.inj (show some w.heap.size = some q from hq)))
end Go.Proofs.Ytfddcmapjnkhhaa
