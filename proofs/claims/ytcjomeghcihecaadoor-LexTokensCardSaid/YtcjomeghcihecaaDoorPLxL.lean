/- Layer 4: Lex. -/
import Derived.Test.YtcjomeghcihecaaDoorPLxZ
import Derived.Deep.RegionHeld3
namespace Go.Proofs.YtcjomeghcihecaaDoor
open Go Go.ChangeShapes Go.WideShapes Go.ChangeAt Go.RowKit Go.PlainAid Go.Maps
set_option linter.unusedVariables false
set_option linter.unusedSimpArgs false
/-- A slice of bytes that came in. -/
def R8 (w : World) (v : Value) (l : Bs) : Prop := Rb w v (ints8 l)
theorem conv_in {w : World} {v : Value} {l : Bs} (h : R8 w v l) : (convert 22 9 v).run Tryd.prog w = .ok (.string (bsOf l)) w := by
  rcases h with ⟨p, rfl, e⟩ | ⟨b, off, c, rfl, h1, h2, h3⟩
  · have hl : l = [] := by cases l with | nil => rfl | cons x y => simp [ints8] at e
    subst hl
    cases p with
    | none => exact run_convert_bytes_nil w 22 5 Tryd.underlying22 Tryd.underlying5 0 0 _ Tryd.underlying9
    | some ad =>
      rw [← strOf8]
      rw [run_convert_bytes_string w 22 9 5 _ 0 0 Tryd.underlying22 Tryd.underlying5 Tryd.underlying9]
      rw [run_bytesToString w ad 0 0 [] (by simp [loadCells, loadCellsFrom])]
      rfl
  · rw [← strOf8]
    exact run_convert_bytes_arg w 22 5 Tryd.underlying22 Tryd.underlying5 b off _ c (ints8 l) rfl h3 _ Tryd.underlying9
theorem r8_form {w : World} {v : Value} {l : Bs} (h : R8 w v l) : ∃ p c, v = .slice p l.length c := by
  obtain ⟨p, c, e, _⟩ := rb_form h
  refine ⟨p, c, ?_⟩
  rw [e]
  simp [ints8]
section
variable {P : Program} {ops : Array Oper} {Q : Exit → Act → World → Prop} {S : World → Prop}
theorem anyU_two {n : Nat} {rest : List Oper} {i j : Nat} {oi oj : Oper} {m : Nat} {done : Array Bool} {a : Act} {w : World} (inv : HeadInv .any ops n done) (hoi : ops[i]? = some oi) (hoj : ops[j]? = some oj) (hgi : oi.guard = none) (hgj : oj.guard = none) (hr : Region.ready .any ops done = [i, j]) (hin : i < n) (hjn : j < n)
    (h1 : HeadInv .any ops n (done.setIfInBounds i true) → ∀ K : Act → World → Prop, Shut (∀ a' w', S w' → (S w' → anyU P .any ops Q S n (restU P .any ops Q n rest) m (done.setIfInBounds i true) a' w') → K a' w') → oi.wpIn Fence.wide 0 P a w K Q)
    (h2 : HeadInv .any ops n (done.setIfInBounds j true) → ∀ K : Act → World → Prop, Shut (∀ a' w', S w' → (S w' → anyU P .any ops Q S n (restU P .any ops Q n rest) m (done.setIfInBounds j true) a' w') → K a' w') → oj.wpIn Fence.wide 0 P a w K Q) : anyU P .any ops Q S n (restU P .any ops Q n rest) (m + 1) done a w := by
  refine ⟨fun h0 => (by rw [hr] at h0; cases h0), fun k hk => ?_⟩
  have hk' := hk
  rw [hr] at hk
  have hk2 : k = i ∨ k = j := by simpa using hk
  rcases hk2 with rfl | rfl
  · refine ⟨hin, ?_⟩
    unfold wpOpIn
    rw [hoi]
    simp only [Region.wanted, hgi, if_true]
    exact h1 (inv.set hk' hin) _ fun a' w' h1 h2 => ⟨h1, h2 h1⟩
  · refine ⟨hjn, ?_⟩
    unfold wpOpIn
    rw [hoj]
    simp only [Region.wanted, hgj, if_true]
    exact h2 (inv.set hk' hjn) _ fun a' w' h1 h2 => ⟨h1, h2 h1⟩
end
set_option maxRecDepth 100000 in
set_option maxHeartbeats 8000000 in
theorem lex_any (v : Value) (l : Bs) (w : World) (hr : R8 w v l) (htab : Lib.TabIs Tryd.prog w "strings.asciiSpace" .u8 Lib.asciiSpaceTab) :
    Calls Tryd.prog 9 #[v] w (LexP w (lexD l)) := by
  have HR := Lib.hid hr
  have HTAB := Lib.hid htab
  obtain ⟨p, c, rfl⟩ := r8_form hr
  clear hr htab
  by_cases hbig : 20000 < l.length
  · have hbz : (l.length : Int) > 20000 := by omega
    have hv : lexD l = .error (0, 24) := by unfold lexD; rw [if_pos hbig]
    rw [hv]
    go_enter Tryd.func9, Tryd.ntmps9
    go_wp2_with fail
    exact bodyPost_ret (v := .tuple #[.slice none 0 0, .int .i64 0, .int .i64 24]) (by simp [results, Tryd.results9, go_sem]) rfl ⟨rfl, Below.refl _ _⟩
  · have hbz : ¬ ((l.length : Int) > 20000) := by omega
    have hll : l.length ≤ 20000 := by omega
    have hv : lexD l = match rowsD 1 ⟨0, [0]⟩ (splitB l) with
        | .error e => .error e
        | .ok p => .ok (p.1 ++ outsD (p.2.op.length - 1) (splitB l).length ++ [⟨0, (splitB l).length, []⟩])   := by
      unfold lexD
      rw [if_neg hbig]
      cases rowsD 1 ⟨0, [0]⟩ (splitB l) <;> rfl
    obtain ⟨LR, hLR⟩ : ∃ r, lexD l = r := ⟨_, rfl⟩
    rw [hLR] at hv ⊢
    have hRs0 : Rs (bsOf l) 0 = l := rfl
    have hsz : (bsOf l).size = l.length := by rw [Lib.size_eq]; rfl
    obtain ⟨s, hs⟩ : ∃ s, bsOf l = s := ⟨_, rfl⟩
    rw [hs] at hRs0 hsz
    rw [← hRs0] at hv
    have HLR := Lib.hid hv
    have HSZ := Lib.hid (show s.size ≤ 20000 by omega)
    have CV := Lib.hid (fun (wx : World) (hx : Below w.heap.size w wx) => show (convert 22 9 (.slice p l.length c)).run Tryd.prog wx = .ok (.string s) wx by rw [← hs]; exact conv_in (HR.out.keep hx))
    clear hv hLR hs hRs0 hsz
    go_enter Tryd.func9, Tryd.ntmps9
    go_upto_region 3 with fail
    go_cut [5] from 10 to 16 (fun p5 wx => ∃ (x mb kb : Nat), p5 = .pointer (some ⟨x, 0, none⟩) ∧ LX (tabD 31) wx w.heap.size x mb kb ⟨s, 0, 1, 0, [0], []⟩ ∧ Below w.heap.size w wx)
    case first =>
      refine wp_region_anyU (S := fun w' => Below w.heap.size w w') 7 (by kernel_rfl) ⟨by kernel_rfl, by kernel_rfl, by kernel_rfl, by kernel_rfl, by decide⟩ ((Below.refl _ _).drew) ?_
      simp only [List.drop_succ_cons, List.drop_zero]
      intro hh inv hS0
      refine anyU_take hh inv (i := 0) (v := ?_) rfl (by decide) (by kernel_rfl) (by kernel_rfl) (fun _ _ _ h => h) (Or.inl ⟨by rfl, ?_⟩) (by assumption) ?_
      rotate_left 1
      · intro w' hSw
        (try dsimp only at hSw)
        first | (have hq := CV.out w' hSw; go_simp) | go_simp
        (try with_reducible rfl)
      intro inv
      (try simp only [List.getElem_toArray, List.getElem_cons_succ, List.getElem_cons_zero, Act.put, List.setIfInBounds_toArray, List.set_cons_zero, List.set_cons_succ])
      refine anyU_take hh inv (i := 1) (v := ?_) rfl (by decide) (by kernel_rfl) (by kernel_rfl) (fun _ _ _ h => h) (Or.inl ⟨by rfl, ?_⟩) (by assumption) ?_
      rotate_left 1
      · intro w' hSw
        (try dsimp only at hSw)
        first | (have hq := CV.out w' hSw; go_simp) | go_simp
        (try with_reducible rfl)
      intro inv
      (try simp only [List.getElem_toArray, List.getElem_cons_succ, List.getElem_cons_zero, Act.put, List.setIfInBounds_toArray, List.set_cons_zero, List.set_cons_succ])
      obtain ⟨W0, hW0⟩ : ∃ W, w.drew = W := ⟨_, rfl⟩
      have hB0 : Below w.heap.size w W0 := by rw [← hW0]; exact hS0
      rw [hW0]
      clear hW0 hS0
      refine anyU_two inv (i := 2) (j := 3) rfl rfl rfl rfl (by kernel_rfl) (by decide) (by decide) (fun inv KK hK => ?_) (fun inv KK hK => ?_)
      · go_simp
        refine hK.out _ _ (Below.alloc hB0 hB0.size _) (fun hHeld => ?_)
        clear hK KK
        obtain ⟨W1, hW1⟩ : ∃ W, W0.alloc (.cells #[.int .i64 0] 3) = W := ⟨_, rfl⟩
        have hB1 : Below w.heap.size w W1 := by rw [← hW1]; exact Below.alloc hB0 hB0.size _
        have st0 : Below W0.heap.size W0 W1 := by rw [← hW1]; exact (Below.refl _ _).alloc (Nat.le_refl _) _
        obtain ⟨g, hgg⟩ : ∃ g, W0.heap.size = g := ⟨_, rfl⟩
        have gB : w.heap.size ≤ g := by rw [← hgg]; exact hB0.size
        have hG : W1.heap[g]? = some (.cells #[.int .i64 0] 3) := by rw [← hW1, ← hgg]; exact heap_alloc_new _ _
        rw [hW1, hgg]
        clear hW1 hgg hHeld
        (try simp only [List.getElem_toArray, List.getElem_cons_succ, List.getElem_cons_zero, Act.put, List.setIfInBounds_toArray, List.set_cons_zero, List.set_cons_succ])
        refine anyU_one inv (i := 3) rfl rfl (by kernel_rfl) (by decide) (fun inv KK hK => ?_)
        refine ⟨fun _ _ => trivial, ?_⟩
        rw [Fence.wide_round, Oper.semAt_none]
        go_simp
        refine ⟨rfl, callsIn_wide.2 ((wordTable_any W1 (tabS_keep HTAB.out hB1)).mono ?_)⟩
        rintro e W2 ⟨mb, rfl, hmb, hM, st1⟩
        have hB2 : Below w.heap.size w W2 := hB1.trans (st1.mono hB1.size)
        refine hK.out _ _ hB2 (fun hHeld => ?_)
        clear hK KK hHeld
        (try simp only [List.getElem_toArray, List.getElem_cons_succ, List.getElem_cons_zero, Act.put, List.setIfInBounds_toArray, List.set_cons_zero, List.set_cons_succ])
        refine anyU_one inv (i := 4) rfl rfl (by kernel_rfl) (by decide) (fun inv KK hK => ?_)
        refine ⟨fun _ _ => trivial, ?_⟩
        rw [Fence.wide_round, Oper.semAt_none]
        go_simp
        refine ⟨rfl, callsIn_wide.2 ((fields_at (l := marksB) (by decide) marks_ascii W2 (tabS_keep HTAB.out hB2)).mono ?_)⟩
        rw [marks_fields, syms_len]
        rintro e wq ⟨rfl, rfl⟩
        refine hK.out _ _ (Below.alloc hB2 hB2.size _) (fun hHeld => ?_)
        clear hK KK
        obtain ⟨W3, hW3⟩ : ∃ W, W2.alloc (.cells (symsB.map fun l => Value.string ⟨l.toArray⟩).toArray 9) = W := ⟨_, rfl⟩
        have hB3 : Below w.heap.size w W3 := by rw [← hW3]; exact Below.alloc hB2 hB2.size _
        have st2 : Below W2.heap.size W2 W3 := by rw [← hW3]; exact (Below.refl _ _).alloc (Nat.le_refl _) _
        obtain ⟨kb, hkb⟩ : ∃ g, W2.heap.size = g := ⟨_, rfl⟩
        have hK2 : W3.heap[kb]? = some (.cells (symsB.map fun l => Value.string ⟨l.toArray⟩).toArray 9) := by rw [← hW3, ← hkb]; exact heap_alloc_new _ _
        rw [hW3, hkb]
        clear hW3 hkb hHeld
        (try simp only [List.getElem_toArray, List.getElem_cons_succ, List.getElem_cons_zero, Act.put, List.setIfInBounds_toArray, List.set_cons_zero, List.set_cons_succ])
        replace hG : W2.heap[g]? = some (.cells #[.int .i64 0] 3) := (st1.block g (Array.getElem?_eq_some_iff.1 hG).1).trans hG
        replace hG : W3.heap[g]? = some (.cells #[.int .i64 0] 3) := (st2.block g (Array.getElem?_eq_some_iff.1 hG).1).trans hG
        replace hM : W3.ownsMap Tryd.prog 9 (plainElem (H := Unit) Tryd.prog 3) mb 31 (tabD 31) := hM.kept (row := none) ⟨st2.os, st2.tape, st2.output, st2.size, fun b hb _ => st2.block b hb⟩ (by simp)
        have hM32 : W3.ownsMap Tryd.prog 9 (plainElem (H := Unit) Tryd.prog 3) mb 32 (tabD 31) := by
          obtain ⟨es, clock, q1, q2, q3, q4⟩ := hM
          exact ⟨es, clock, q1, q2, by omega, q4⟩
        have HLX := Lib.hid (mkLX (D := tabD 31) (B := w.heap.size) (s := s) (c := 1) (T := 46) hM32 hK2 hG gB hB3.size)
        have HB4 := Lib.hid (Below.alloc hB3 hB3.size (.cells #[.string s, .int .i64 0, .int .i64 1, .int .i64 0, .slice (some ⟨g, 0, none⟩) 1 1, .map (some mb), .slice (some ⟨kb, 0, none⟩) 30 30, .slice none 0 0] 46))
        clear hM32 hM hK2 hG
        refine anyU_take hh inv (i := 5) (v := ?_) rfl (by decide) (by kernel_rfl) (by kernel_rfl) (fun _ _ _ h => h) (Or.inl ⟨by rfl, ?_⟩) (by assumption) ?_
        rotate_left 1
        · intro w' hSw
          (try dsimp only at hSw)
          first | (have hq := CV.out w' hSw; go_simp) | go_simp
          (try with_reducible rfl)
        intro inv
        (try simp only [List.getElem_toArray, List.getElem_cons_succ, List.getElem_cons_zero, Act.put, List.setIfInBounds_toArray, List.set_cons_zero, List.set_cons_succ])
        refine anyU_one inv (i := 6) rfl rfl (by kernel_rfl) (by decide) (fun inv KK hK => ?_)
        go_simp
        refine hK.out _ _ HB4.out (fun hHeld => ?_)
        clear hK KK
        (try simp only [List.getElem_toArray, List.getElem_cons_succ, List.getElem_cons_zero, Act.put, List.setIfInBounds_toArray, List.set_cons_zero, List.set_cons_succ])
        refine ⟨by kernel_rfl, ?_⟩
        gi_wp2
        go_meet
        exact ⟨W3.heap.size, mb, kb, rfl, HLX.out, HB4.out⟩
      · refine ⟨fun _ _ => trivial, ?_⟩
        rw [Fence.wide_round, Oper.semAt_none]
        go_simp
        refine ⟨rfl, callsIn_wide.2 ((wordTable_any W0 (tabS_keep HTAB.out hB0)).mono ?_)⟩
        rintro e W1 ⟨mb, rfl, hmb, hM, st0⟩
        have hB1 : Below w.heap.size w W1 := hB0.trans (st0.mono hB0.size)
        refine hK.out _ _ hB1 (fun hHeld => ?_)
        clear hK KK hHeld
        (try simp only [List.getElem_toArray, List.getElem_cons_succ, List.getElem_cons_zero, Act.put, List.setIfInBounds_toArray, List.set_cons_zero, List.set_cons_succ])
        refine anyU_two inv (i := 2) (j := 4) rfl rfl rfl rfl (by kernel_rfl) (by decide) (by decide) (fun inv KK hK => ?_) (fun inv KK hK => ?_)
        · go_simp
          refine hK.out _ _ (Below.alloc hB1 hB1.size _) (fun hHeld => ?_)
          clear hK KK
          obtain ⟨W2, hW2⟩ : ∃ W, W1.alloc (.cells #[.int .i64 0] 3) = W := ⟨_, rfl⟩
          have hB2 : Below w.heap.size w W2 := by rw [← hW2]; exact Below.alloc hB1 hB1.size _
          have st1 : Below W1.heap.size W1 W2 := by rw [← hW2]; exact (Below.refl _ _).alloc (Nat.le_refl _) _
          obtain ⟨g, hgg⟩ : ∃ g, W1.heap.size = g := ⟨_, rfl⟩
          have gB : w.heap.size ≤ g := by rw [← hgg]; exact hB1.size
          have hG : W2.heap[g]? = some (.cells #[.int .i64 0] 3) := by rw [← hW2, ← hgg]; exact heap_alloc_new _ _
          rw [hW2, hgg]
          clear hW2 hgg hHeld
          (try simp only [List.getElem_toArray, List.getElem_cons_succ, List.getElem_cons_zero, Act.put, List.setIfInBounds_toArray, List.set_cons_zero, List.set_cons_succ])
          refine anyU_one inv (i := 4) rfl rfl (by kernel_rfl) (by decide) (fun inv KK hK => ?_)
          refine ⟨fun _ _ => trivial, ?_⟩
          rw [Fence.wide_round, Oper.semAt_none]
          go_simp
          refine ⟨rfl, callsIn_wide.2 ((fields_at (l := marksB) (by decide) marks_ascii W2 (tabS_keep HTAB.out hB2)).mono ?_)⟩
          rw [marks_fields, syms_len]
          rintro e wq ⟨rfl, rfl⟩
          refine hK.out _ _ (Below.alloc hB2 hB2.size _) (fun hHeld => ?_)
          clear hK KK
          obtain ⟨W3, hW3⟩ : ∃ W, W2.alloc (.cells (symsB.map fun l => Value.string ⟨l.toArray⟩).toArray 9) = W := ⟨_, rfl⟩
          have hB3 : Below w.heap.size w W3 := by rw [← hW3]; exact Below.alloc hB2 hB2.size _
          have st2 : Below W2.heap.size W2 W3 := by rw [← hW3]; exact (Below.refl _ _).alloc (Nat.le_refl _) _
          obtain ⟨kb, hkb⟩ : ∃ g, W2.heap.size = g := ⟨_, rfl⟩
          have hK2 : W3.heap[kb]? = some (.cells (symsB.map fun l => Value.string ⟨l.toArray⟩).toArray 9) := by rw [← hW3, ← hkb]; exact heap_alloc_new _ _
          rw [hW3, hkb]
          clear hW3 hkb hHeld
          (try simp only [List.getElem_toArray, List.getElem_cons_succ, List.getElem_cons_zero, Act.put, List.setIfInBounds_toArray, List.set_cons_zero, List.set_cons_succ])
          replace hM : W2.ownsMap Tryd.prog 9 (plainElem (H := Unit) Tryd.prog 3) mb 31 (tabD 31) := hM.kept (row := none) ⟨st1.os, st1.tape, st1.output, st1.size, fun b hb _ => st1.block b hb⟩ (by simp)
          replace hG : W3.heap[g]? = some (.cells #[.int .i64 0] 3) := (st2.block g (Array.getElem?_eq_some_iff.1 hG).1).trans hG
          replace hM : W3.ownsMap Tryd.prog 9 (plainElem (H := Unit) Tryd.prog 3) mb 31 (tabD 31) := hM.kept (row := none) ⟨st2.os, st2.tape, st2.output, st2.size, fun b hb _ => st2.block b hb⟩ (by simp)
          have hM32 : W3.ownsMap Tryd.prog 9 (plainElem (H := Unit) Tryd.prog 3) mb 32 (tabD 31) := by
            obtain ⟨es, clock, q1, q2, q3, q4⟩ := hM
            exact ⟨es, clock, q1, q2, by omega, q4⟩
          have HLX := Lib.hid (mkLX (D := tabD 31) (B := w.heap.size) (s := s) (c := 1) (T := 46) hM32 hK2 hG gB hB3.size)
          have HB4 := Lib.hid (Below.alloc hB3 hB3.size (.cells #[.string s, .int .i64 0, .int .i64 1, .int .i64 0, .slice (some ⟨g, 0, none⟩) 1 1, .map (some mb), .slice (some ⟨kb, 0, none⟩) 30 30, .slice none 0 0] 46))
          clear hM32 hM hK2 hG
          refine anyU_take hh inv (i := 5) (v := ?_) rfl (by decide) (by kernel_rfl) (by kernel_rfl) (fun _ _ _ h => h) (Or.inl ⟨by rfl, ?_⟩) (by assumption) ?_
          rotate_left 1
          · intro w' hSw
            (try dsimp only at hSw)
            first | (have hq := CV.out w' hSw; go_simp) | go_simp
            (try with_reducible rfl)
          intro inv
          (try simp only [List.getElem_toArray, List.getElem_cons_succ, List.getElem_cons_zero, Act.put, List.setIfInBounds_toArray, List.set_cons_zero, List.set_cons_succ])
          refine anyU_one inv (i := 6) rfl rfl (by kernel_rfl) (by decide) (fun inv KK hK => ?_)
          go_simp
          refine hK.out _ _ HB4.out (fun hHeld => ?_)
          clear hK KK
          (try simp only [List.getElem_toArray, List.getElem_cons_succ, List.getElem_cons_zero, Act.put, List.setIfInBounds_toArray, List.set_cons_zero, List.set_cons_succ])
          refine ⟨by kernel_rfl, ?_⟩
          gi_wp2
          go_meet
          exact ⟨W3.heap.size, mb, kb, rfl, HLX.out, HB4.out⟩
        · refine ⟨fun _ _ => trivial, ?_⟩
          rw [Fence.wide_round, Oper.semAt_none]
          go_simp
          refine ⟨rfl, callsIn_wide.2 ((fields_at (l := marksB) (by decide) marks_ascii W1 (tabS_keep HTAB.out hB1)).mono ?_)⟩
          rw [marks_fields, syms_len]
          rintro e wq ⟨rfl, rfl⟩
          refine hK.out _ _ (Below.alloc hB1 hB1.size _) (fun hHeld => ?_)
          clear hK KK
          obtain ⟨W2, hW2⟩ : ∃ W, W1.alloc (.cells (symsB.map fun l => Value.string ⟨l.toArray⟩).toArray 9) = W := ⟨_, rfl⟩
          have hB2 : Below w.heap.size w W2 := by rw [← hW2]; exact Below.alloc hB1 hB1.size _
          have st1 : Below W1.heap.size W1 W2 := by rw [← hW2]; exact (Below.refl _ _).alloc (Nat.le_refl _) _
          obtain ⟨kb, hkb⟩ : ∃ g, W1.heap.size = g := ⟨_, rfl⟩
          have hK2 : W2.heap[kb]? = some (.cells (symsB.map fun l => Value.string ⟨l.toArray⟩).toArray 9) := by rw [← hW2, ← hkb]; exact heap_alloc_new _ _
          rw [hW2, hkb]
          clear hW2 hkb hHeld
          (try simp only [List.getElem_toArray, List.getElem_cons_succ, List.getElem_cons_zero, Act.put, List.setIfInBounds_toArray, List.set_cons_zero, List.set_cons_succ])
          refine anyU_one inv (i := 2) rfl rfl (by kernel_rfl) (by decide) (fun inv KK hK => ?_)
          go_simp
          refine hK.out _ _ (Below.alloc hB2 hB2.size _) (fun hHeld => ?_)
          clear hK KK
          obtain ⟨W3, hW3⟩ : ∃ W, W2.alloc (.cells #[.int .i64 0] 3) = W := ⟨_, rfl⟩
          have hB3 : Below w.heap.size w W3 := by rw [← hW3]; exact Below.alloc hB2 hB2.size _
          have st2 : Below W2.heap.size W2 W3 := by rw [← hW3]; exact (Below.refl _ _).alloc (Nat.le_refl _) _
          obtain ⟨g, hgg⟩ : ∃ g, W2.heap.size = g := ⟨_, rfl⟩
          have gB : w.heap.size ≤ g := by rw [← hgg]; exact hB2.size
          have hG : W3.heap[g]? = some (.cells #[.int .i64 0] 3) := by rw [← hW3, ← hgg]; exact heap_alloc_new _ _
          rw [hW3, hgg]
          clear hW3 hgg hHeld
          (try simp only [List.getElem_toArray, List.getElem_cons_succ, List.getElem_cons_zero, Act.put, List.setIfInBounds_toArray, List.set_cons_zero, List.set_cons_succ])
          replace hM : W2.ownsMap Tryd.prog 9 (plainElem (H := Unit) Tryd.prog 3) mb 31 (tabD 31) := hM.kept (row := none) ⟨st1.os, st1.tape, st1.output, st1.size, fun b hb _ => st1.block b hb⟩ (by simp)
          replace hK2 := (st2.block kb (Array.getElem?_eq_some_iff.1 hK2).1).trans hK2
          replace hM : W3.ownsMap Tryd.prog 9 (plainElem (H := Unit) Tryd.prog 3) mb 31 (tabD 31) := hM.kept (row := none) ⟨st2.os, st2.tape, st2.output, st2.size, fun b hb _ => st2.block b hb⟩ (by simp)
          have hM32 : W3.ownsMap Tryd.prog 9 (plainElem (H := Unit) Tryd.prog 3) mb 32 (tabD 31) := by
            obtain ⟨es, clock, q1, q2, q3, q4⟩ := hM
            exact ⟨es, clock, q1, q2, by omega, q4⟩
          have HLX := Lib.hid (mkLX (D := tabD 31) (B := w.heap.size) (s := s) (c := 1) (T := 46) hM32 hK2 hG gB hB3.size)
          have HB4 := Lib.hid (Below.alloc hB3 hB3.size (.cells #[.string s, .int .i64 0, .int .i64 1, .int .i64 0, .slice (some ⟨g, 0, none⟩) 1 1, .map (some mb), .slice (some ⟨kb, 0, none⟩) 30 30, .slice none 0 0] 46))
          clear hM32 hM hK2 hG
          refine anyU_take hh inv (i := 5) (v := ?_) rfl (by decide) (by kernel_rfl) (by kernel_rfl) (fun _ _ _ h => h) (Or.inl ⟨by rfl, ?_⟩) (by assumption) ?_
          rotate_left 1
          · intro w' hSw
            (try dsimp only at hSw)
            first | (have hq := CV.out w' hSw; go_simp) | go_simp
            (try with_reducible rfl)
          intro inv
          (try simp only [List.getElem_toArray, List.getElem_cons_succ, List.getElem_cons_zero, Act.put, List.setIfInBounds_toArray, List.set_cons_zero, List.set_cons_succ])
          refine anyU_one inv (i := 6) rfl rfl (by kernel_rfl) (by decide) (fun inv KK hK => ?_)
          go_simp
          refine hK.out _ _ HB4.out (fun hHeld => ?_)
          clear hK KK
          (try simp only [List.getElem_toArray, List.getElem_cons_succ, List.getElem_cons_zero, Act.put, List.setIfInBounds_toArray, List.set_cons_zero, List.set_cons_succ])
          refine ⟨by kernel_rfl, ?_⟩
          gi_wp2
          go_meet
          exact ⟨W3.heap.size, mb, kb, rfl, HLX.out, HB4.out⟩
    case rest =>
      obtain ⟨x, mb, kb, rfl, hx0, hb0⟩ := hcut
      have HX0 := Lib.hid hx0
      have HB0 := Lib.hid hb0
      clear hx0 hb0
      go_wp2_with fail
      go_loopw [6] (fun e6 wr => ∃ (a ln : Nat) (d : Int) (op : List Int) (acc : List Tk), LX (tabD 31) wr w.heap.size x mb kb ⟨s, a, ln, d, op, acc⟩ ∧ a ≤ s.size ∧ OpOk op ∧ (∀ t ∈ op, t ≤ 20000) ∧ acc.length + op.length ≤ 4 * a + 1 ∧ 0 ≤ d ∧ d ≤ (a : Int) ∧ ln ≤ a + 1 ∧ Gone s a ln d op acc ∧ Below w.heap.size w wr) (fun e6 wr => s.size - atO x wr)
      case atStart =>
        have h1 : ∀ t ∈ ([0] : List Int), t ≤ 20000 := by intro t ht; simp only [List.mem_singleton] at ht; omega
        exact ⟨0, 1, 0, [0], [], HX0.out, Nat.zero_le _, OpOk.zero, h1, by simp, Int.le_refl _, by omega, by omega, Gone.start s, HB0.out⟩
      case round =>
        obtain ⟨a, ln, d, op, acc, hx, has, hop, hfit, hacc, hd0, hd1, hln, hgone, hbw⟩ := hrel
        have HX := Lib.hid hx
        have HBW := Lib.hid hbw
        have HGONE := Lib.hid hgone
        have HOP := Lib.hid hop
        have HFIT := Lib.hid hfit
        have HATO := Lib.hid hx.atO
        have y0 := hx.choose_spec.choose_spec.c.c0
        have y1 := hx.choose_spec.choose_spec.c.c1
        simp only at y0 y1
        have hsz20 := HSZ.out
        clear hx hbw hgone
        by_cases hlt : a < s.size
        · have hlz : (a : Int) < (s.size : Int) := by omega
          have HL := Lib.hid (fun n => takeLine_any tabD_ok (σ := ⟨s, a, ln, d, op, acc⟩) (HX.out.drew n) HSZ.out has hop hfit (by simp only; omega) (by simp only; omega))
          simp only at HL
          have hrl := row_len_le s a
          obtain ⟨rl, hrle⟩ : ∃ r, (rowOf (Rs s a)).length = r := ⟨_, rfl⟩
          rw [hrle] at hrl
          have HRL := Lib.hid hrle
          cases hrd : rowD ln ⟨d, op⟩ (rowOf (Rs s a)) with
          | error n =>
            rw [hrd] at HL
            have hbad := HGONE.out.bad hlt hrd
            have hlr : LR = .error ((ln : Int), n) := by rw [HLR.out, hbad]
            have HLRV := Lib.hid hlr
            clear hbad hlr hrd hrle hop hfit
            go_wp2_with fail
            go_quiet (fail)
            go_wp2_with fail
            refine (HL.out nq).mono ?_
            rintro e w7 ⟨rfl, hn, σ7, hx7, hl7, hb7⟩
            have z2 := hx7.choose_spec.choose_spec.c.c2
            rw [hl7] at z2
            have HB7 := Lib.hid ((HBW.out.trans (drew_below _ wr nq)).trans hb7)
            have hnb : (n == 0) = false := by rcases hn with rfl | rfl <;> rfl
            clear hx7 hl7 hb7 hn y0 y1
            go_wp2_with fail
            go_quiet (fail)
            go_wp2_with fail
            refine bodyPost_ret (v := .tuple #[.slice none 0 0, .int .i64 ln, .int .i64 n]) (by simp [results, Tryd.results9, go_sem]) rfl ?_
            rw [HLRV.out]
            exact ⟨rfl, HB7.out.trans (drew_below _ _ _)⟩
          | ok p =>
            rw [hrd] at HL
            have hsize := rowD_size (s := ⟨d, op⟩) HOP.out hrd
            have hop2 := rowD_op (s := ⟨d, op⟩) HOP.out hrd
            simp only [hrle] at hsize
            have HSIZE := Lib.hid hsize
            have HOP2 := Lib.hid hop2
            have hfit2 : ∀ t ∈ p.2.op, t ≤ 20000 := fun t ht => by
              rcases hsize.2.2 t ht with h | h
              · exact hfit t h
              · omega
            have HFIT2 := Lib.hid hfit2
            have HRD := Lib.hid hrd
            have HNUM := Lib.hid (show p.1.length + p.2.op.length ≤ op.length + 4 * rl ∧ 0 ≤ p.2.d ∧ p.2.d ≤ d + rl from ⟨hsize.1, (hsize.2.1 hd0).1, (hsize.2.1 hd0).2⟩)
            clear hsize hop2 hfit2 hrd hop hfit
            by_cases hm : a + rl < s.size
            · have hlz2 : ((a + rl : Nat) : Int) < (s.size : Int) := by omega
              obtain ⟨a2, ha2⟩ : ∃ b, a + rl = b := ⟨_, rfl⟩
              rw [ha2] at hm hlz2
              have HA2 := Lib.hid ha2
              have w1 : IntKind.i64.wrap ((a2 : Int) + 1) = ((a2 + 1 : Nat) : Int) := by rw [i64_in (by omega) (by omega)]; omega
              have w2 : IntKind.i64.wrap ((ln : Int) + 1) = ((ln + 1 : Nat) : Int) := by rw [i64_in (by omega) (by omega)]; omega
              clear hrle ha2
              go_wp2_with fail
              go_quiet (fail)
              go_wp2_with fail
              refine (HL.out nq).mono ?_
              rintro e w7 ⟨rfl, hx7, hb7⟩
              simp only [HRL.out, HA2.out] at hx7
              have z0 := hx7.choose_spec.choose_spec.c.c0
              have z1 := hx7.choose_spec.choose_spec.c.c1
              have z2 := hx7.choose_spec.choose_spec.c.c2
              have g1 := hx7.choose_spec.choose_spec.c.f 1
              have g2 := hx7.choose_spec.choose_spec.c.f 2
              simp only at z0 z1 z2
              have HX7 := Lib.hid hx7
              have HB7 := Lib.hid ((HBW.out.trans (drew_below _ wr nq)).trans hb7)
              clear hx7 hb7 y0 y1
              go_wp2_with fail
              go_quiet (fail)
              go_wp2_with fail
              have hst := (HX7.out.drew nq).setAt (a2 + 1)
              have hst2 := hst.1.setLn (ln + 1)
              have HST := Lib.hid hst2.1
              have HBT := Lib.hid (((HB7.out.trans (drew_below _ w7 nq)).trans hst.2).trans hst2.2)
              clear hst hst2
              go_roundw
              case rel =>
                have hN := HNUM.out
                have hA := HA2.out
                refine ⟨a2 + 1, ln + 1, p.2.d, p.2.op, acc ++ p.1, HST.out, by omega, HOP2.out, HFIT2.out, by rw [List.length_append]; omega, hN.2.1, by omega, by omega, ?_, HBT.out⟩
                have hnext := HGONE.out.next (by rw [HRL.out, hA]; exact hm) HRD.out
                rw [HRL.out, hA] at hnext
                exact hnext
              case measure =>
                have h1 := HST.out.atO
                have h2 := HATO.out
                have hA := HA2.out
                simp only at h1 h2
                first | (rw [h1, h2]; omega) | (simp_all; omega)
            · have hae : a + rl = s.size := by omega
              have hlast := HGONE.out.last (by rw [HRL.out]; exact hae) HRD.out
              have HLAST := Lib.hid hlast
              have HAE := Lib.hid hae
              clear hrle hlast hae
              go_wp2_with fail
              go_quiet (fail)
              go_wp2_with fail
              refine (HL.out nq).mono ?_
              rintro e w7 ⟨rfl, hx7, hb7⟩
              simp only [HRL.out, HAE.out] at hx7
              have z0 := hx7.choose_spec.choose_spec.c.c0
              have z1 := hx7.choose_spec.choose_spec.c.c1
              simp only at z0 z1
              have HX7 := Lib.hid hx7
              have HB7 := Lib.hid ((HBW.out.trans (drew_below _ wr nq)).trans hb7)
              clear hx7 hb7 y0 y1
              go_wp2_with fail
              go_quiet (fail)
              go_wp2_with fail
              go_roundw
              case rel =>
                have hN := HNUM.out
                have hA := HAE.out
                exact ⟨s.size, ln, p.2.d, p.2.op, acc ++ p.1, HX7.out.drew _, Nat.le_refl _, HOP2.out, HFIT2.out, by rw [List.length_append]; omega, hN.2.1, by omega, by omega, HLAST.out, HB7.out.trans (drew_below _ _ _)⟩
              case measure =>
                have h1 := (HX7.out.drew nq).atO
                have h2 := HATO.out
                simp only at h1 h2
                first | (rw [h1, h2]; omega) | (simp_all; omega)
        · obtain rfl : a = s.size := by omega
          have hlz : ¬ ((s.size : Int) < (s.size : Int)) := by omega
          obtain ⟨hdone, hlns⟩ := HGONE.out.done
          have hpop0 := hop.pop0
          have hl1 := hop.len
          have hlr : LR = .ok (acc ++ outsD (op.length - 1) ln ++ [⟨0, ln, []⟩]) := by
            rw [HLR.out, hdone]
            simp only [hlns]
          have HLRV := Lib.hid hlr
          have HC := Lib.hid (fun n => closeTo_any (σ := ⟨s, s.size, ln, d, op, acc⟩) (HX.out.drew n) 0 hop hfit (by simp only; omega))
          simp only [Int.ofNat_zero, hpop0, List.length_singleton] at HC
          clear hdone hlns hpop0 hlr hop hfit
          go_wp2_with fail
          go_quiet (fail)
          go_wp2_with fail
          refine (HC.out nq).mono ?_
          rintro e w7 ⟨rfl, hx7, hb7⟩
          have HX7 := Lib.hid hx7
          have HB7 := Lib.hid ((HBW.out.trans (drew_below _ wr nq)).trans hb7)
          clear hx7 hb7 y0 y1
          go_wp2_with fail
          refine (put_any HX7.out (by show (acc ++ outsD (op.length - 1) (ln : Int)).length ≤ 1000000; rw [List.length_append]; simp only [outsD, List.length_replicate]; omega) 0 []).mono ?_
          rintro e w8 ⟨rfl, hx8, hb8⟩
          simp only at hx8
          have HB8 := Lib.hid (HB7.out.trans hb8)
          obtain ⟨ov8, tv8, hv8⟩ := hx8
          have z7 := hv8.c.c7
          have ht8 := hv8.t
          simp only at ht8
          obtain ⟨p8, c8, rfl⟩ := owns_form ht8
          have HT8 := Lib.hid ht8
          clear hv8 hb8 ht8
          go_wp2_with fail
          refine bodyPost_ret (v := .tuple #[.slice p8 (acc ++ outsD (op.length - 1) (ln : Int) ++ [(⟨0, ln, []⟩ : Tk)]).length c8, .int .i64 0, .int .i64 0]) (by simp [results, Tryd.results9, go_sem]) rfl ?_
          rw [HLRV.out]
          exact ⟨_, rfl, HT8.out, HB8.out⟩
end Go.Proofs.YtcjomeghcihecaaDoor
