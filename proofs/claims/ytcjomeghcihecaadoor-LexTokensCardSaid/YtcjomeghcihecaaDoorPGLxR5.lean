/- Layer 4: the document's text: strings. Layer 4: the document's text, walked. -/
import Derived.Test.YtcjomeghcihecaaDoorPLxR3
import Derived.Test.YtcjomeghcihecaaDoorPLxJo
namespace Go.Proofs.YtcjomeghcihecaaDoor
section
open Go Go.ChangeShapes Go.WideShapes Go.ChangeAt Go.RowKit Go.PlainAid Go.Maps
set_option linter.unusedVariables false
set_option linter.unusedSimpArgs false
theorem escP_at {s : ByteArray} {k : Nat} (h : k < s.size) : escP (restB s k) = if bt s k = 110 then (10, 1) else if bt s k = 116 then (9, 1) else if bt s k = 92 ∨ bt s k = 39 ∨ bt s k = 34 then (bt s k, 1)
    else if bt s k = 120 ∧ 0 ≤ baseI s (k + 1) ∧ 0 ≤ baseI s (k + 2) then (baseI s (k + 1) * 16 + baseI s (k + 2), 3) else (0, 0) := by
  have h0 : bt (restB s k) 0 = bt s k := restB_bt (by omega)
  have hz : ¬ (restB s k).size = 0 := by rw [restB_size]; omega
  unfold escP
  rw [if_neg hz, h0]
  by_cases h1 : bt s k = 110
  · rw [if_pos h1, if_pos h1]
  · rw [if_neg h1, if_neg h1]
    by_cases h2 : bt s k = 116
    · rw [if_pos h2, if_pos h2]
    · rw [if_neg h2, if_neg h2]
      by_cases h3 : bt s k = 92 ∨ bt s k = 39 ∨ bt s k = 34
      · rw [if_pos h3, if_pos h3]
      · rw [if_neg h3, if_neg h3, restB_size]
        by_cases h4 : k + 3 ≤ s.size
        · have e1 : bt (restB s k) 1 = bt s (k + 1) := restB_bt (by omega)
          have e2 : bt (restB s k) 2 = bt s (k + 2) := restB_bt (by omega)
          have f1 : baseI s (k + 1) = hexI (bt s (k + 1)) := by unfold baseI; rw [if_pos (by omega)]
          have f2 : baseI s (k + 2) = hexI (bt s (k + 2)) := by unfold baseI; rw [if_pos (by omega)]
          rw [e1, e2, f1, f2]
          have e3 : 3 ≤ s.size - k := by omega
          simp only [e3, true_and]
        · rw [if_neg (fun hh => by omega), if_neg (fun hh => by have h5 := hh.2.2; unfold baseI at h5; rw [if_neg (by omega)] at h5; omega)]
theorem esc_hex (q : UInt8) {s : ByteArray} {k : Nat} (h : k < s.size) (h1 : bt s k = 120) : ((baseI s (k + 1) < 0 ∨ baseI s (k + 2) < 0) ∧ strS q .esc (Rs s k) = none) ∨
    (0 ≤ baseI s (k + 1) ∧ 0 ≤ baseI s (k + 2) ∧ baseI s (k + 1) ≤ 15 ∧ baseI s (k + 2) ≤ 15 ∧ k + 3 ≤ s.size ∧ strS q .esc (Rs s k) = (strS q .plain (Rs s (k + 3))).map fun p => (UInt8.ofNat (16 * baseI s (k + 1) + baseI s (k + 2)).toNat :: p.1, p.2 + 3)) := by
  have he := escP_at h
  rw [if_neg (by omega), if_neg (by omega), if_neg (by omega)] at he
  have hs := esc_step q s k
  have l1 : baseI s (k + 1) ≤ 15 := by unfold baseI; split; · exact (hexI_lo _).2
                                       · omega
  have l2 : baseI s (k + 2) ≤ 15 := by unfold baseI; split; · exact (hexI_lo _).2
                                       · omega
  by_cases hb : 0 ≤ baseI s (k + 1) ∧ 0 ≤ baseI s (k + 2)
  · rw [if_pos ⟨h1, hb⟩] at he
    rcases hs with ⟨e, _⟩ | ⟨n, e, hn, hk, h3, _, _, hm⟩
    · rw [he] at e; simp at e
    · rw [he] at e hm
      simp only at e hm
      have : n = 3 := by omega
      subst this
      refine .inr ⟨hb.1, hb.2, l1, l2, hk, ?_⟩
      rw [hm, show baseI s (k + 1) * 16 + baseI s (k + 2) = 16 * baseI s (k + 1) + baseI s (k + 2) by omega]
  · rw [if_neg (fun hh => hb hh.2)] at he
    rcases hs with ⟨_, e⟩ | ⟨n, e, hn, _⟩
    · exact .inl ⟨by omega, e⟩
    · rw [he] at e; simp only at e; omega
theorem esc_one (q : UInt8) {s : ByteArray} {k : Nat} (h : k < s.size) (h1 : bt s k ≠ 120) : (stI (bt s k) = 0 ∧ strS q .esc (Rs s k) = none) ∨
    (stI (bt s k) ≠ 0 ∧ 0 ≤ stI (bt s k) ∧ stI (bt s k) ≤ 255 ∧ strS q .esc (Rs s k) = (strS q .plain (Rs s (k + 1))).map fun p => (UInt8.ofNat (stI (bt s k)).toNat :: p.1, p.2 + 1)) := by
  have he := escP_at h
  have hs := esc_step q s k
  have b0 := bt_nonneg s k
  have b1 := bt_le s k
  have hE : escP (restB s k) = if stI (bt s k) = 0 then (0, 0) else (stI (bt s k), 1) := by
    rw [he]
    unfold stI
    by_cases g1 : bt s k = 110
    · simp [g1]
    · by_cases g2 : bt s k = 116
      · simp [g2]
      · by_cases g3 : bt s k = 92 ∨ bt s k = 39 ∨ bt s k = 34
        · simp only [if_neg g1, if_neg g2, if_pos g3]
          rw [if_neg (by omega)]
        · simp only [if_neg g1, if_neg g2, if_neg g3]
          rw [if_neg (fun hh => h1 hh.1)]
          simp
  have hst : stI (bt s k) ≠ 0 → 0 ≤ stI (bt s k) ∧ stI (bt s k) ≤ 255 := fun _ => by unfold stI; (repeat' split) <;> omega
  by_cases g : stI (bt s k) = 0
  · rw [if_pos g] at hE
    rcases hs with ⟨_, e⟩ | ⟨n, e, hn, _⟩
    · exact .inl ⟨g, e⟩
    · rw [hE] at e; simp only at e; omega
  · rw [if_neg g] at hE
    rcases hs with ⟨e, _⟩ | ⟨n, e, hn, hk, h3, _, _, hm⟩
    · rw [hE] at e; simp at e
    · rw [hE] at e hm
      simp only at e hm
      have : n = 1 := by omega
      subst this
      exact .inr ⟨g, (hst g).1, (hst g).2, hm⟩
/-- A string, read as far as j. -/
def TxI (q : UInt8) (s : ByteArray) (a j : Nat) (acc : Bs) : Prop := a + 1 ≤ j ∧ strS q .plain (Rs s (a + 1)) = (strS q .plain (Rs s j)).map fun p => (acc ++ p.1, p.2 + (j - (a + 1)))
theorem TxI.start (q : UInt8) (s : ByteArray) (a : Nat) : TxI q s a (a + 1) [] := ⟨Nat.le_refl _, by cases strS q .plain (Rs s (a + 1)) <;> simp⟩
theorem TxI.none {q : UInt8} {s : ByteArray} {a j : Nat} {acc : Bs} (h : TxI q s a j acc) (hn : strS q .plain (Rs s j) = none) : strS q .plain (Rs s (a + 1)) = none := by rw [h.2, hn]; rfl
theorem TxI.step {q : UInt8} {s : ByteArray} {a j n : Nat} {acc : Bs} {c : UInt8} (h : TxI q s a j acc) (hn : strS q .plain (Rs s j) = (strS q .plain (Rs s (j + n))).map fun p => (c :: p.1, p.2 + n)) : TxI q s a (j + n) (acc ++ [c]) := by
  obtain ⟨h1, h2⟩ := h
  refine ⟨by omega, ?_⟩
  rw [h2, hn]
  cases strS q .plain (Rs s (j + n)) with
  | none => rfl
  | some p => simp only [Option.map_some, List.append_assoc, List.singleton_append, Option.some.injEq, Prod.mk.injEq, true_and]; omega
theorem TxI.quote {q : UInt8} {s : ByteArray} {a j : Nat} {acc : Bs} (h : TxI q s a j acc) (hn : strS q .plain (Rs s j) = some ([], 1)) : strS q .plain (Rs s (a + 1)) = some (acc, j - a) := by
  obtain ⟨h1, h2⟩ := h
  rw [h2, hn]
  simp only [Option.map_some, List.append_nil, Option.some.injEq, Prod.mk.injEq, true_and]
  omega
end
section
open Go Go.ChangeShapes Go.WideShapes Go.ChangeAt Go.RowKit Go.PlainAid Go.Maps
set_option linter.unusedVariables false
set_option linter.unusedSimpArgs false
theorem o8_drew {B : Nat} {w : World} {v : Value} {l : Bs} (h : O8 B w v l) (q : Nat) : O8 B (w.drewN q) v l := owns_of h fun g hg => (below_drewN w q).block g (owns_lt h hg).2
/-- A box of three cells. -/
def Bx3 (w : World) (C : Nat) (x y z : Value) (T : TypeId) : Prop := w.heap[C]? = some (.cells #[x, y, z] T)
theorem Bx3.cells {w : World} {C : Nat} {x y z : Value} {T : TypeId} (h : Bx3 w C x y z T) : w.cell? ⟨C, 0, none⟩ = some x ∧ w.cell? ⟨C, 1, none⟩ = some y ∧ w.cell? ⟨C, 2, none⟩ = some z :=
  ⟨by rw [World.cell?, h]; rfl, by rw [World.cell?, h]; rfl, by rw [World.cell?, h]; rfl⟩
theorem Bx3.frozen {w : World} {C : Nat} {x y z : Value} {T : TypeId} (h : Bx3 w C x y z T) (j : Nat) : w.frozen? ⟨C, j, none⟩ = false := frozen_of_row w C j _ T h
theorem Bx3.set {w : World} {C : Nat} {x y z : Value} {T : TypeId} (h : Bx3 w C x y z T) (a b c : Value) : Bx3 (((w.setCell ⟨C, 0, none⟩ a).setCell ⟨C, 1, none⟩ b).setCell ⟨C, 2, none⟩ c) C a b c T := by
  have h1 := heap_setCell_same w C 0 _ T a h
  have h2 := heap_setCell_same _ C 1 _ T b h1
  have h3 := heap_setCell_same _ C 2 _ T c h2
  unfold Bx3
  rw [h3]
  rfl
theorem Bx3.keep {B C : Nat} {w w' : World} {x y z : Value} {T : TypeId} (h : Bx3 w C x y z T) (hb : Below B w w') (hC : C < B) : Bx3 w' C x y z T := (hb.block C hC).trans h
theorem Bx3.made (w : World) (x y z : Value) (T : TypeId) : Bx3 (w.alloc (.cells #[x, y, z] T)) w.heap.size x y z T := heap_alloc_new w _
set_option maxRecDepth 100000 in
set_option maxHeartbeats 4000000 in
theorem text_r (s : ByteArray) (w : World) (hs : s.size ≤ 20000) (a : Nat) (ha : a < s.size) (q : UInt8) (hq : 32 ≤ q.toNat) (hqb : bt s a = (q.toNat : Int)) :
    Calls Tryd.prog 35 #[.string s, .int .i64 a] w (PcP w a ((strS q .plain (Rs s (a + 1))).map fun p => (7, p.1, p.2 + 1))) := by
  have hb := get_bt s
  have HQB := Lib.hid hqb
  obtain ⟨r, hr⟩ : ∃ x, strS q .plain (Rs s (a + 1)) = x := ⟨_, rfl⟩
  rw [hr]
  have HRR := Lib.hid hr
  clear hqb hr
  go_enter Tryd.func35, Tryd.ntmps35
  go_upto_region 2 with fail
  obtain ⟨W1, hW1⟩ : ∃ W, w.alloc (.cells #[.int .i64 0, .string ⟨#[]⟩, .int .i64 0] 52) = W := ⟨_, rfl⟩
  have hz1 : w.heap.size + 1 ≤ W1.heap.size := by rw [← hW1]; simp
  have hbx : Bx3 W1 w.heap.size (.int .i64 0) (.string ⟨#[]⟩) (.int .i64 0) 52 := by rw [← hW1]; exact Bx3.made _ _ _ _ _
  have HBX := Lib.hid hbx
  clear hbx
  have HW1 := Lib.hid (show Below w.heap.size w W1 by rw [← hW1]; exact (Below.refl _ _).alloc (Nat.le_refl _) _)
  rw [hW1]
  clear hW1
  obtain ⟨B, hB⟩ : ∃ b, w.heap.size + 1 = b := ⟨_, rfl⟩
  rw [hB] at hz1
  have hCB : w.heap.size < B := by omega
  have hBC : w.heap.size ≤ B := by omega
  have HBW := Lib.hid hB
  clear hB
  have w0x : IntKind.i64.wrap ((a : Int) + 1) = (a : Int) + 1 := i64_in (by omega) (by omega)
  go_wp2_with fail
  clear w0x
  go_loopw [5, 6] (fun s5 s6 wr => ∃ (j : Nat) (acc : Bs), s6 = .int .i64 j ∧ j ≤ s.size ∧ acc.length ≤ j ∧ TxI q s a j acc ∧ O8 B wr s5 acc ∧ Below B W1 wr) (fun s5 s6 wr => s.size - (intOf s6).toNat)
  case atStart => exact ⟨a + 1, [], by go_num, by omega, Nat.zero_le _, TxI.start q s a, o8_nil _ _, Below.refl _ _⟩
  case round =>
    obtain ⟨j, acc, rfl, hj, hal, ht, ho, hbr⟩ := hrel
    have HT := Lib.hid ht
    have HO := Lib.hid ho
    have HBR := Lib.hid hbr
    have hrs : B ≤ wr.heap.size := by have := hbr.size; omega
    obtain ⟨p5, k5, rfl⟩ := ho.form
    clear ht ho hbr
    by_cases hlt : j < s.size
    · have hz2 : (j : Int) < (s.size : Int) := by omega
      by_cases hqq : bt s j = bt s a
      · have b1 : (bt s j != bt s a) = false := by simp [hqq]
        have hyes := HT.out.quote (str_quote q hlt (by rw [hqq, HQB.out]))
        have HYES := Lib.hid hyes
        clear hyes hqq
        go_upto_region 3 with fail
        go_quiet (fail)
        rename_i nq
        obtain ⟨WD, hWD⟩ : ∃ W, wr.drewN nq = W := ⟨_, rfl⟩
        have HOD := Lib.hid (show O8 B WD _ acc by rw [← hWD]; exact o8_drew HO.out _)
        have HBD := Lib.hid (show Below B W1 WD by rw [← hWD]; exact HBR.out.trans ((below_drewN _ _).mono hrs))
        have hds : B ≤ WD.heap.size := by have := HBD.out.size; omega
        rw [hWD]
        clear hWD
        have HBW2 := HBX.out.keep HBD.out hCB
        obtain ⟨z0, z1, z2⟩ := HBW2.cells
        have f0 := HBW2.frozen 0
        have f1 := HBW2.frozen 1
        have f2 := HBW2.frozen 2
        clear HBW2
        have hcv := conv8 HOD.out.ow
        have w3x : IntKind.i64.wrap ((j : Int) + 1) = (j : Int) + 1 := i64_in (by omega) (by omega)
        go_wp2_with fail
        have HN := (HBX.out.keep HBD.out hCB).set (.int .i64 7) (.string (bsOf acc)) (.int .i64 ((j : Int) + 1))
        obtain ⟨n0, n1, n2⟩ := HN.cells
        clear z0 z1 z2 f0 f1 f2
        refine bodyPost_ret (v := .agg #[.int .i64 7, .string (bsOf acc), .int .i64 ((j : Int) + 1)]) (by simp [results, Tryd.results35, go_sem, n0, n1, n2]) rfl ⟨_, _, _, rfl, ?_, .inr ⟨(7, acc, j - a + 1), by rw [← HRR.out, HYES.out]; rfl, rfl, rfl, by show ((j : Int) + 1) = ((a + (j - a + 1) : Nat) : Int); have h9 := HT.out.1; omega⟩⟩
        exact ((((HW1.out.trans (HBD.out.mono hBC)).setCell (p := ⟨w.heap.size, 0, none⟩) (Nat.le_refl _) _).setCell (p := ⟨w.heap.size, 1, none⟩) (Nat.le_refl _) _).setCell (p := ⟨w.heap.size, 2, none⟩) (Nat.le_refl _) _)
      · have b1 : (bt s j != bt s a) = true := by simp [hqq]
        have hqx : bt s j ≠ (q.toNat : Int) := by rw [← HQB.out]; exact hqq
        clear hqq
        go_upto_region 3 with fail
        go_quiet (fail)
        rename_i nq
        obtain ⟨WD, hWD⟩ : ∃ W, wr.drewN nq = W := ⟨_, rfl⟩
        have HOD := Lib.hid (show O8 B WD _ acc by rw [← hWD]; exact o8_drew HO.out _)
        have HBD := Lib.hid (show Below B W1 WD by rw [← hWD]; exact HBR.out.trans ((below_drewN _ _).mono hrs))
        have hds : B ≤ WD.heap.size := by have := HBD.out.size; omega
        rw [hWD]
        clear hWD
        have hz6 : (j : Int) ≤ 20000 := by omega
        by_cases h32 : bt s j < 32
        · have b2 : decide (bt s j < 32) = true := by simpa using h32
          have hno := HT.out.none (str_low q hq hlt h32)
          have HNO := Lib.hid hno
          clear hno
          have HBW2 := HBX.out.keep HBD.out hCB
          obtain ⟨z0, z1, z2⟩ := HBW2.cells
          have f0 := HBW2.frozen 0
          have f1 := HBW2.frozen 1
          have f2 := HBW2.frozen 2
          clear HBW2
          go_wp2_with fail
          have HN := (HBX.out.keep HBD.out hCB).set (.int .i64 (-1)) (.string ⟨#[]⟩) (.int .i64 0)
          obtain ⟨n0, n1, n2⟩ := HN.cells
          clear z0 z1 z2 f0 f1 f2
          refine bodyPost_ret (v := .agg #[.int .i64 (-1), .string ⟨#[]⟩, .int .i64 0]) (by simp [results, Tryd.results35, go_sem, n0, n1, n2]) rfl ⟨_, _, _, rfl, ?_, .inl ⟨by rw [← HRR.out, HNO.out]; rfl, rfl⟩⟩
          exact ((((HW1.out.trans (HBD.out.mono hBC)).setCell (p := ⟨w.heap.size, 0, none⟩) (Nat.le_refl _) _).setCell (p := ⟨w.heap.size, 1, none⟩) (Nat.le_refl _) _).setCell (p := ⟨w.heap.size, 2, none⟩) (Nat.le_refl _) _)
        · have b2 : decide (bt s j < 32) = false := by simpa using h32
          by_cases h92 : bt s j = 92
          · have b3 : (bt s j != 92) = false := by simp [h92]
            have hesc := str_esc q hlt hqx h92
            have HESC := Lib.hid hesc
            have w4x : IntKind.i64.wrap ((j : Int) + 1) = (j : Int) + 1 := i64_in (by omega) (by omega)
            clear hesc h92 hqx
            by_cases hj1 : j + 1 < s.size
            · have hz3 : ¬ ((j : Int) + 1 ≥ (s.size : Int)) := by omega
              have hz4 : (0 : Int) ≤ (j : Int) + 1 := by omega
              by_cases h120 : bt s (j + 1) = 120
              · have b4 : (bt s (j + 1) == 120) = true := by simp [h120]
                obtain ⟨j2, hj2⟩ : ∃ x, j + 2 = x := ⟨_, rfl⟩
                obtain ⟨j3, hj3⟩ : ∃ x, j + 3 = x := ⟨_, rfl⟩
                have w5x : IntKind.i64.wrap ((j : Int) + 2) = (j2 : Int) := by
                  have e : (j : Int) + 2 = (j2 : Int) := by omega
                  rw [e]; exact i64_in (by omega) (by omega)
                have w6x : IntKind.i64.wrap ((j : Int) + 3) = (j3 : Int) := by
                  have e : (j : Int) + 3 = (j3 : Int) := by omega
                  rw [e]; exact i64_in (by omega) (by omega)
                have hx := esc_hex q hj1 h120
                rw [show j + 1 + 1 = j2 by omega, show j + 1 + 2 = j3 by omega] at hx
                have HB2 := Lib.hid (fun wx => base_any s j2 (by omega) (by omega) wx)
                have HB3 := Lib.hid (fun wx => base_any s j3 (by omega) (by omega) wx)
                obtain ⟨hh, hhh⟩ : ∃ x, baseI s j2 = x := ⟨_, rfl⟩
                obtain ⟨ll, hll⟩ : ∃ x, baseI s j3 = x := ⟨_, rfl⟩
                rw [hhh] at HB2 hx
                rw [hll] at HB3 hx
                clear hj2 hj3 hhh hll h120
                rcases hx with ⟨hbad, hn⟩ | ⟨g1, g2, g3, g4, g5, hm⟩
                · have hno := HT.out.none (by rw [HESC.out, hn]; rfl)
                  have HNO := Lib.hid hno
                  clear hno hn
                  by_cases k1 : hh < 0
                  · clear hbad
                    have HBW2 := HBX.out.keep HBD.out hCB
                    obtain ⟨z0, z1, z2⟩ := HBW2.cells
                    have f0 := HBW2.frozen 0
                    have f1 := HBW2.frozen 1
                    have f2 := HBW2.frozen 2
                    clear HBW2
                    go_wp2_with (first | (go_at_call 45; (with_reducible refine (HB2.out _).mono ?_); rintro e w1 ⟨rfl, hw1⟩; (have hw2 := hw1.symm; clear hw1; subst hw2)) | (go_at_call 45; (with_reducible refine (HB3.out _).mono ?_); rintro e w1 ⟨rfl, hw1⟩; (have hw2 := hw1.symm; clear hw1; subst hw2)) | fail)
                    have HN := (HBX.out.keep HBD.out hCB).set (.int .i64 (-1)) (.string ⟨#[]⟩) (.int .i64 0)
                    obtain ⟨n0, n1, n2⟩ := HN.cells
                    clear z0 z1 z2 f0 f1 f2
                    refine bodyPost_ret (v := .agg #[.int .i64 (-1), .string ⟨#[]⟩, .int .i64 0]) (by simp [results, Tryd.results35, go_sem, n0, n1, n2]) rfl ⟨_, _, _, rfl, ?_, .inl ⟨by rw [← HRR.out, HNO.out]; rfl, rfl⟩⟩
                    exact ((((HW1.out.trans (HBD.out.mono hBC)).setCell (p := ⟨w.heap.size, 0, none⟩) (Nat.le_refl _) _).setCell (p := ⟨w.heap.size, 1, none⟩) (Nat.le_refl _) _).setCell (p := ⟨w.heap.size, 2, none⟩) (Nat.le_refl _) _)
                  · have k2 : ll < 0 := by omega
                    clear hbad
                    have HBW2 := HBX.out.keep HBD.out hCB
                    obtain ⟨z0, z1, z2⟩ := HBW2.cells
                    have f0 := HBW2.frozen 0
                    have f1 := HBW2.frozen 1
                    have f2 := HBW2.frozen 2
                    clear HBW2
                    go_wp2_with (first | (go_at_call 45; (with_reducible refine (HB2.out _).mono ?_); rintro e w1 ⟨rfl, hw1⟩; (have hw2 := hw1.symm; clear hw1; subst hw2)) | (go_at_call 45; (with_reducible refine (HB3.out _).mono ?_); rintro e w1 ⟨rfl, hw1⟩; (have hw2 := hw1.symm; clear hw1; subst hw2)) | fail)
                    have HN := (HBX.out.keep HBD.out hCB).set (.int .i64 (-1)) (.string ⟨#[]⟩) (.int .i64 0)
                    obtain ⟨n0, n1, n2⟩ := HN.cells
                    clear z0 z1 z2 f0 f1 f2
                    refine bodyPost_ret (v := .agg #[.int .i64 (-1), .string ⟨#[]⟩, .int .i64 0]) (by simp [results, Tryd.results35, go_sem, n0, n1, n2]) rfl ⟨_, _, _, rfl, ?_, .inl ⟨by rw [← HRR.out, HNO.out]; rfl, rfl⟩⟩
                    exact ((((HW1.out.trans (HBD.out.mono hBC)).setCell (p := ⟨w.heap.size, 0, none⟩) (Nat.le_refl _) _).setCell (p := ⟨w.heap.size, 1, none⟩) (Nat.le_refl _) _).setCell (p := ⟨w.heap.size, 2, none⟩) (Nat.le_refl _) _)
                · have k1 : ¬ hh < 0 := by omega
                  have k2 : ¬ ll < 0 := by omega
                  have hcv : IntKind.u8.wrap (16 * hh + ll) = 16 * hh + ll := u8_in (by omega) (by omega)
                  have hch : ((UInt8.ofNat (16 * hh + ll).toNat).toNat : Int) = 16 * hh + ll := by
                    rw [UInt8.toNat_ofNat']
                    omega
                  obtain ⟨c, hc⟩ : ∃ c, UInt8.ofNat (16 * hh + ll).toNat = c := ⟨_, rfl⟩
                  rw [hc] at hm hch
                  have hst := HT.out.step (n := 4) (by rw [HESC.out, hm, Option.map_map, show j + 1 + 3 = j + 4 by omega]; rfl)
                  have HST := Lib.hid hst
                  have HCH := Lib.hid hch
                  have w7x : IntKind.i64.wrap ((j : Int) + 4) = (j : Int) + 4 := i64_in (by omega) (by omega)
                  have hg5 : j + 4 ≤ s.size := by omega
                  have HAP := Lib.hid (o8_snocK HOD.out hds (by omega) c)
                  clear hc hm hst hch
                  go_wp2_with (first
                    | (go_at_call 45; (with_reducible refine (HB2.out _).mono ?_); rintro e w1 ⟨rfl, hw1⟩; (have hw2 := hw1.symm; clear hw1; subst hw2))
                    | (go_at_call 45; (with_reducible refine (HB3.out _).mono ?_); rintro e w1 ⟨rfl, hw1⟩; (have hw2 := hw1.symm; clear hw1; subst hw2))
                    | (at_builtin; refine wpList_appR rfl (.tmp 68) (.tmp 74) rfl rfl rfl (by have h := HAP.out; rw [HCH.out] at h; exact h _) ?_; rintro v8 w8 ⟨ho8, hb8, _⟩; have HO8 := Lib.hid ho8; have HB8 := Lib.hid (HBD.out.trans hb8); clear ho8 hb8)
                    | fail)
                  go_roundw
                  case rel => exact ⟨j + 4, acc ++ [c], by go_num, hg5, by rw [List.length_append, List.length_singleton]; omega, HST.out, HO8.out, HB8.out⟩
                  case measure => simp [intOf]; omega
              · have b4 : (bt s (j + 1) == 120) = false := by simpa using h120
                have hx := esc_one q hj1 h120
                obtain ⟨ct, hct⟩ : ∃ x, stI (bt s (j + 1)) = x := ⟨_, rfl⟩
                have HSB := Lib.hid (fun wx => stands_any (bt s (j + 1)) wx)
                rw [hct] at hx HSB
                clear hct h120
                rcases hx with ⟨hbad, hn⟩ | ⟨g1, g2, g3, hm⟩
                · have hno := HT.out.none (by rw [HESC.out, hn]; rfl)
                  have HNO := Lib.hid hno
                  subst hbad
                  clear hno hn
                  have HBW2 := HBX.out.keep HBD.out hCB
                  obtain ⟨z0, z1, z2⟩ := HBW2.cells
                  have f0 := HBW2.frozen 0
                  have f1 := HBW2.frozen 1
                  have f2 := HBW2.frozen 2
                  clear HBW2
                  go_wp2_with (first | (go_at_call 46; (with_reducible refine (HSB.out _).mono ?_); rintro e w1 ⟨rfl, hw1⟩; (have hw2 := hw1.symm; clear hw1; subst hw2)) | fail)
                  have HN := (HBX.out.keep HBD.out hCB).set (.int .i64 (-1)) (.string ⟨#[]⟩) (.int .i64 0)
                  obtain ⟨n0, n1, n2⟩ := HN.cells
                  clear z0 z1 z2 f0 f1 f2
                  refine bodyPost_ret (v := .agg #[.int .i64 (-1), .string ⟨#[]⟩, .int .i64 0]) (by simp [results, Tryd.results35, go_sem, n0, n1, n2]) rfl ⟨_, _, _, rfl, ?_, .inl ⟨by rw [← HRR.out, HNO.out]; rfl, rfl⟩⟩
                  exact ((((HW1.out.trans (HBD.out.mono hBC)).setCell (p := ⟨w.heap.size, 0, none⟩) (Nat.le_refl _) _).setCell (p := ⟨w.heap.size, 1, none⟩) (Nat.le_refl _) _).setCell (p := ⟨w.heap.size, 2, none⟩) (Nat.le_refl _) _)
                · have b5 : (ct == 0) = false := by simpa using g1
                  have hch : ((UInt8.ofNat ct.toNat).toNat : Int) = ct := by
                    rw [UInt8.toNat_ofNat']
                    omega
                  obtain ⟨c, hc⟩ : ∃ c, UInt8.ofNat ct.toNat = c := ⟨_, rfl⟩
                  rw [hc] at hm hch
                  have hst := HT.out.step (n := 2) (by rw [HESC.out, hm, Option.map_map]; rfl)
                  have HST := Lib.hid hst
                  have HCH := Lib.hid hch
                  have w7x : IntKind.i64.wrap ((j : Int) + 2) = (j : Int) + 2 := i64_in (by omega) (by omega)
                  have HAP := Lib.hid (o8_snocK HOD.out hds (by omega) c)
                  clear hc hm hst hch g1
                  go_wp2_with (first
                    | (go_at_call 46; (with_reducible refine (HSB.out _).mono ?_); rintro e w1 ⟨rfl, hw1⟩; (have hw2 := hw1.symm; clear hw1; subst hw2))
                    | (at_builtin; refine wpList_appR rfl (.tmp 86) (.tmp 88) rfl rfl rfl (by have h := HAP.out; rw [HCH.out] at h; exact h _) ?_; rintro v8 w8 ⟨ho8, hb8, _⟩; have HO8 := Lib.hid ho8; have HB8 := Lib.hid (HBD.out.trans hb8); clear ho8 hb8)
                    | fail)
                  go_roundw
                  case rel => exact ⟨j + 2, acc ++ [c], by go_num, by omega, by rw [List.length_append, List.length_singleton]; omega, HST.out, HO8.out, HB8.out⟩
                  case measure => simp [intOf]; omega
            · have hz3 : (j : Int) + 1 ≥ (s.size : Int) := by omega
              have hno := HT.out.none (by rw [HESC.out, Rs_end (by omega)]; rfl)
              have HNO := Lib.hid hno
              clear hno
              have HBW2 := HBX.out.keep HBD.out hCB
              obtain ⟨z0, z1, z2⟩ := HBW2.cells
              have f0 := HBW2.frozen 0
              have f1 := HBW2.frozen 1
              have f2 := HBW2.frozen 2
              clear HBW2
              go_wp2_with fail
              have HN := (HBX.out.keep HBD.out hCB).set (.int .i64 (-1)) (.string ⟨#[]⟩) (.int .i64 0)
              obtain ⟨n0, n1, n2⟩ := HN.cells
              clear z0 z1 z2 f0 f1 f2
              refine bodyPost_ret (v := .agg #[.int .i64 (-1), .string ⟨#[]⟩, .int .i64 0]) (by simp [results, Tryd.results35, go_sem, n0, n1, n2]) rfl ⟨_, _, _, rfl, ?_, .inl ⟨by rw [← HRR.out, HNO.out]; rfl, rfl⟩⟩
              exact ((((HW1.out.trans (HBD.out.mono hBC)).setCell (p := ⟨w.heap.size, 0, none⟩) (Nat.le_refl _) _).setCell (p := ⟨w.heap.size, 1, none⟩) (Nat.le_refl _) _).setCell (p := ⟨w.heap.size, 2, none⟩) (Nat.le_refl _) _)
          · have b3 : (bt s j != 92) = true := by simp [h92]
            obtain ⟨c, hc1, _⟩ := bt_byte hlt
            have hst := HT.out.step (n := 1) (c := c) (by rw [str_plain q hlt hqx (by omega) h92, hc1]; simp)
            have HST := Lib.hid hst
            have HC1 := Lib.hid hc1
            have w7x : IntKind.i64.wrap ((j : Int) + 1) = (j : Int) + 1 := i64_in (by omega) (by omega)
            have HAP := Lib.hid (o8_snocK HOD.out hds (by omega) c)
            clear hc1 hst hqx h92
            go_wp2_with (first
              | (at_builtin; refine wpList_appR rfl (.tmp 34) (.tmp 38) rfl rfl rfl (by have h := HAP.out; rw [← HC1.out] at h; exact h _) ?_; rintro v8 w8 ⟨ho8, hb8, _⟩; have HO8 := Lib.hid ho8; have HB8 := Lib.hid (HBD.out.trans hb8); clear ho8 hb8)
              | fail)
            go_roundw
            case rel => exact ⟨j + 1, acc ++ [c], by go_num, hlt, by rw [List.length_append, List.length_singleton]; omega, HST.out, HO8.out, HB8.out⟩
            case measure => simp [intOf]; omega
    · have hz2 : ¬ (j : Int) < (s.size : Int) := by omega
      have hno := HT.out.none (str_end q (by omega))
      have HNO := Lib.hid hno
      clear hno
      go_upto_region 3 with fail
      go_quiet (fail)
      rename_i nq
      obtain ⟨WD, hWD⟩ : ∃ W, wr.drewN nq = W := ⟨_, rfl⟩
      have HOD := Lib.hid (show O8 B WD _ acc by rw [← hWD]; exact o8_drew HO.out _)
      have HBD := Lib.hid (show Below B W1 WD by rw [← hWD]; exact HBR.out.trans ((below_drewN _ _).mono hrs))
      have hds : B ≤ WD.heap.size := by have := HBD.out.size; omega
      rw [hWD]
      clear hWD
      have HBW2 := HBX.out.keep HBD.out hCB
      obtain ⟨z0, z1, z2⟩ := HBW2.cells
      have f0 := HBW2.frozen 0
      have f1 := HBW2.frozen 1
      have f2 := HBW2.frozen 2
      clear HBW2
      go_wp2_with fail
      have HN := (HBX.out.keep HBD.out hCB).set (.int .i64 (-1)) (.string ⟨#[]⟩) (.int .i64 0)
      obtain ⟨n0, n1, n2⟩ := HN.cells
      clear z0 z1 z2 f0 f1 f2
      refine bodyPost_ret (v := .agg #[.int .i64 (-1), .string ⟨#[]⟩, .int .i64 0]) (by simp [results, Tryd.results35, go_sem, n0, n1, n2]) rfl ⟨_, _, _, rfl, ?_, .inl ⟨by rw [← HRR.out, HNO.out]; rfl, rfl⟩⟩
      exact ((((HW1.out.trans (HBD.out.mono hBC)).setCell (p := ⟨w.heap.size, 0, none⟩) (Nat.le_refl _) _).setCell (p := ⟨w.heap.size, 1, none⟩) (Nat.le_refl _) _).setCell (p := ⟨w.heap.size, 2, none⟩) (Nat.le_refl _) _)
end
end Go.Proofs.YtcjomeghcihecaaDoor
