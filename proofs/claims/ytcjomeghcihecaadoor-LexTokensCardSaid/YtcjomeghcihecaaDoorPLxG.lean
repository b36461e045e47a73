/- Layer 4: blanks, digits. -/
import Derived.Test.YtcjomeghcihecaaDoorPLxF
namespace Go.Proofs.YtcjomeghcihecaaDoor
open Go Go.ChangeShapes Go.WideShapes Go.ChangeAt Go.RowKit Go.PlainAid Go.Maps
set_option linter.unusedVariables false
set_option linter.unusedSimpArgs false
/-- Where the lexer stands, told from its block. -/
def atO (x : Nat) (w : World) : Nat := match w.cell? ⟨x, 1, none⟩ with
  | some v => (intOf v).toNat
  | none => 0
theorem LX.atO {D : DataW Unit} {w : World} {B x mb kb : Nat} {σ : LxD} (h : LX D w B x mb kb σ) : atO x w = σ.a := by
  obtain ⟨ov, tv, h⟩ := h
  unfold Go.Proofs.YtcjomeghcihecaaDoor.atO
  rw [h.c.c1]
  simp [intOf]
theorem LX.setAt {D : DataW Unit} {w : World} {B x mb kb : Nat} {σ : LxD} (h : LX D w B x mb kb σ) (a : Nat) : LX D (w.setCell ⟨x, 1, none⟩ (.int .i64 a)) B x mb kb { σ with a := a } ∧ Below B w (w.setCell ⟨x, 1, none⟩ (.int .i64 a)) := by
  obtain ⟨ov, tv, h⟩ := h
  exact ⟨⟨ov, tv, h.setAt a⟩, (Below.refl _ _).setCell h.bx _⟩
theorem LX.drew {D : DataW Unit} {w : World} {B x mb kb : Nat} {σ : LxD} (h : LX D w B x mb kb σ) (n : Nat) : LX D (w.drewN n) B x mb kb σ := h.keep (drew_below _ _ _)
theorem blk_step {s : ByteArray} {k : Nat} (h : k < s.size) (hc : bt s k = 32) : blkN (Rs s k) = blkN (Rs s (k + 1)) + 1 := by
  obtain ⟨c, h1, h2⟩ := Rs_cons h
  have hc' : c = 32 := (u8_eq (n := 32) (by decide)).1 (by rw [← h2, hc]; rfl)
  rw [h1, hc']
  unfold blkN
  rw [List.takeWhile_cons, if_pos (by rfl)]
  rfl
theorem blk_stop {s : ByteArray} {k : Nat} (h : k < s.size) (hc : bt s k ≠ 32) : blkN (Rs s k) = 0 := by
  obtain ⟨c, h1, h2⟩ := Rs_cons h
  have hc' : c ≠ 32 := fun e => hc (by rw [h2, e]; rfl)
  rw [h1]
  unfold blkN
  rw [List.takeWhile_cons, if_neg (by simpa using hc')]
  rfl
theorem row_step {s : ByteArray} {k : Nat} (h : k < s.size) (hc : bt s k ≠ 10) : (rowOf (Rs s k)).length = (rowOf (Rs s (k + 1))).length + 1 := by
  obtain ⟨c, h1, h2⟩ := Rs_cons h
  have hc' : c ≠ 10 := fun e => hc (by rw [h2, e]; rfl)
  rw [h1]
  unfold rowOf
  rw [List.takeWhile_cons, if_pos (by simpa using hc')]
  rfl
theorem skN_parts (s : ByteArray) (k : Nat) : (k + blkN (Rs s k) < s.size ∧ bt s (k + blkN (Rs s k)) = 35 ∧ skN (Rs s k) = (rowOf (Rs s k)).length) ∨ (¬ (k + blkN (Rs s k) < s.size ∧ bt s (k + blkN (Rs s k)) = 35) ∧ skN (Rs s k) = blkN (Rs s k)) := by
  unfold skN
  rw [Rs_drop]
  by_cases hlt : k + blkN (Rs s k) < s.size
  · obtain ⟨c, h1, h2⟩ := Rs_cons hlt
    by_cases hc : bt s (k + blkN (Rs s k)) = 35
    · refine .inl ⟨hlt, hc, ?_⟩
      have hc' : c = 35 := (u8_eq (n := 35) (by decide)).1 (by rw [← h2, hc]; rfl)
      rw [h1, hc', if_pos (by rfl)]
    · refine .inr ⟨fun h => hc h.2, ?_⟩
      have hc' : c ≠ 35 := fun e => hc (by rw [h2, e]; rfl)
      rw [h1, if_neg (by simpa using hc')]
  · refine .inr ⟨fun h => hlt h.1, ?_⟩
    rw [Rs_end (by omega)]
    rfl
theorem row_len_le (s : ByteArray) (k : Nat) : (rowOf (Rs s k)).length ≤ s.size - k := by rw [← Rs_len]; exact takeWhile_le _ _
theorem blk_len_le (s : ByteArray) (k : Nat) : blkN (Rs s k) ≤ s.size - k := by rw [← Rs_len]; exact blkN_le _
set_option maxRecDepth 100000 in
set_option maxHeartbeats 1600000 in
theorem skipBlanks_any {D : DataW Unit} {w : World} {B x mb kb : Nat} {σ : LxD} (h : LX D w B x mb kb σ) (hs : σ.s.size ≤ 20000) (ha : σ.a ≤ σ.s.size) :
    Calls Tryd.prog 30 #[.pointer (some ⟨x, 0, none⟩)] w fun e w' => e = .returned (.tuple #[]) ∧ LX D w' B x mb kb { σ with a := σ.a + skN (Rs σ.s σ.a) } ∧ Below B w w' := by
  obtain ⟨s, a, ln, d, op, out⟩ := σ
  simp only at hs ha h ⊢
  have hb := get_bt s
  have H := Lib.hid h
  clear h
  have HSK := Lib.hid (skN_parts s a)
  have HBL := Lib.hid (blk_len_le s a)
  go_enter Tryd.func30, Tryd.ntmps30
  go_wp2_with fail
  go_loopw [] (fun wr => ∃ k : Nat, a ≤ k ∧ k ≤ s.size ∧ blkN (Rs s a) = (k - a) + blkN (Rs s k) ∧ (rowOf (Rs s a)).length = (k - a) + (rowOf (Rs s k)).length ∧ LX D wr B x mb kb ⟨s, k, ln, d, op, out⟩ ∧ Below B w wr) (fun wr => s.size - atO x wr)
  case atStart => exact ⟨a, Nat.le_refl _, ha, by omega, by omega, H.out, Below.refl _ _⟩
  case round =>
    obtain ⟨k, hak, hks, hbk, hrk, hx, hbw⟩ := hrel
    have HRK := Lib.hid hrk
    have HX := Lib.hid hx
    have HBW := Lib.hid hbw
    have HBK := Lib.hid hbk
    have c0 := hx.choose_spec.choose_spec.c.c0
    have c1 := hx.choose_spec.choose_spec.c.c1
    have f1 := hx.choose_spec.choose_spec.c.f 1
    have hato := hx.atO
    simp only at c0 c1
    have HAT := Lib.hid hato
    clear hx hbw hbk hato hrk
    by_cases hlt : k < s.size
    · have hlz : (k : Int) < (s.size : Int) := by omega
      by_cases hc : bt s k = 32
      · have hcb : (bt s k == 32) = true := by simpa using hc
        go_wp2_with fail
        go_quiet (fail)
        go_wp2_with fail
        have hst := (HX.out.drew nq).setAt (k + 1)
        have HST := Lib.hid hst
        clear hst
        go_roundw
        case rel =>
          refine ⟨k + 1, by omega, by omega, ?_, ?_, ?_, ?_⟩
          · have h1 := blk_step hlt hc
            have h2 := HBK.out
            omega
          · have h1 := row_step hlt (by rw [hc]; decide)
            have h2 := HRK.out
            omega
          · exact HST.out.1
          · exact HBW.out.trans ((drew_below B wr nq).trans HST.out.2)
        case measure =>
          have h1 := HST.out.1.atO
          have h2 := HAT.out
          simp only at h1 h2
          first | (rw [h1, h2]; omega) | (simp_all; omega)
      · have hcb : (bt s k == 32) = false := by simpa using hc
        have hk : k = a + blkN (Rs s a) := by
          have h1 := blk_stop hlt hc
          have h2 := HBK.out
          omega
        have HK := Lib.hid hk
        clear hk
        by_cases h35 : bt s k = 35
        · have hcb2 : (bt s k == 35) = true := by simpa using h35
          have hsk : skN (Rs s a) = (rowOf (Rs s a)).length := by
            rcases HSK.out with h1 | h1
            · exact h1.2.2
            · exact absurd ⟨by rw [← HK.out]; exact hlt, by rw [← HK.out]; exact h35⟩ h1.1
          have HS2 := Lib.hid hsk
          have HRW := Lib.hid (row_len_le s a)
          clear hsk
          go_wp2_with fail
          go_quiet (fail)
          go_wp2_with fail
          go_quiet (fail)
          go_wp2_with fail
          go_loopw [] (fun wx => ∃ j : Nat, k ≤ j ∧ j ≤ s.size ∧ (rowOf (Rs s k)).length = (j - k) + (rowOf (Rs s j)).length ∧ LX D wx B x mb kb ⟨s, j, ln, d, op, out⟩ ∧ Below B w wx) (fun wx => s.size - atO x wx)
          case atStart => exact ⟨k, Nat.le_refl _, hks, by omega, (HX.out.drew _).drew _, (HBW.out.trans (drew_below _ _ _)).trans (drew_below _ _ _)⟩
          case round =>
            obtain ⟨j, hkj, hjs, hrj, hx, hbw⟩ := hrel
            have HXJ := Lib.hid hx
            have HBJ := Lib.hid hbw
            have HRJ := Lib.hid hrj
            have c0 := hx.choose_spec.choose_spec.c.c0
            have c1 := hx.choose_spec.choose_spec.c.c1
            have f1 := hx.choose_spec.choose_spec.c.f 1
            have HATJ := Lib.hid hx.atO
            simp only at c0 c1
            clear hx hbw hrj
            cases he : endB s j
            · have hjlt : j < s.size ∧ bt s j ≠ 10 := by
                unfold endB at he
                simp only [Bool.or_eq_false_iff, decide_eq_false_iff_not] at he
                exact ⟨by omega, he.2⟩
              go_wp2_with (first | (go_at_call 31; (with_reducible refine (atEnd_any HXJ.out hs hjs).mono ?_); rintro e w1 ⟨rfl, n1, rfl⟩) | fail)
              have HST := Lib.hid ((HXJ.out.drew n1).setAt (j + 1))
              go_roundw
              case rel =>
                refine ⟨j + 1, by omega, by omega, ?_, ?_, ?_⟩
                · have h1 := row_step hjlt.1 hjlt.2
                  have h2 := HRJ.out
                  omega
                · exact HST.out.1
                · exact HBJ.out.trans ((drew_below B _ n1).trans HST.out.2)
              case measure =>
                have h1 := HST.out.1.atO
                have h2 := HATJ.out
                simp only at h1 h2
                first | (rw [h1, h2]; omega) | (simp_all; omega)
            · have hj0 : (rowOf (Rs s j)).length = 0 := by
                have h1 := endB_row (s := s) (a := j) hjs
                rw [he] at h1
                exact List.length_eq_zero_iff.2 (List.isEmpty_iff.1 h1.symm)
              go_wp2_with (first | (go_at_call 31; (with_reducible refine (atEnd_any HXJ.out hs hjs).mono ?_); rintro e w1 ⟨rfl, n1, rfl⟩) | fail)
              refine bodyPost_end (v := .tuple #[]) (by simp [results, Tryd.results30, go_sem]) rfl ⟨rfl, ?_, ?_⟩
              · have hj2 : a + skN (Rs s a) = j := by
                  have h1 := HS2.out
                  have h2 := HRK.out
                  have h3 := HRJ.out
                  have h4 := HK.out
                  omega
                rw [hj2]
                exact HXJ.out.drew _
              · exact HBJ.out.trans (drew_below _ _ _)
        · have hcb2 : (bt s k == 35) = false := by simpa using h35
          have hsk : skN (Rs s a) = blkN (Rs s a) := by
            rcases HSK.out with h1 | h1
            · exact absurd (by rw [HK.out]; exact h1.2.1) h35
            · exact h1.2
          have HS2 := Lib.hid hsk
          clear hsk
          go_wp2_with fail
          go_quiet (fail)
          go_wp2_with fail
          go_quiet (fail)
          go_wp2_with fail
          refine bodyPost_end (v := .tuple #[]) (by simp [results, Tryd.results30, go_sem]) rfl ⟨rfl, ?_, ?_⟩
          · rw [HS2.out, ← HK.out]
            exact (HX.out.drew _).drew _
          · exact (HBW.out.trans (drew_below _ _ _)).trans (drew_below _ _ _)
    · have hlz : ¬ (k : Int) < (s.size : Int) := by omega
      have hk : k = a + blkN (Rs s a) := by
        have h1 := blk_len_le s k
        have h2 := HBK.out
        omega
      have HK := Lib.hid hk
      clear hk
      have hsk : skN (Rs s a) = blkN (Rs s a) := by
        rcases HSK.out with h1 | h1
        · exact absurd (by rw [HK.out]; exact h1.1) hlt
        · exact h1.2
      have HS2 := Lib.hid hsk
      clear hsk
      go_wp2_with fail
      go_quiet (fail)
      go_wp2_with fail
      go_quiet (fail)
      go_wp2_with fail
      refine bodyPost_end (v := .tuple #[]) (by simp [results, Tryd.results30, go_sem]) rfl ⟨rfl, ?_, ?_⟩
      · rw [HS2.out, ← HK.out]
        exact (HX.out.drew _).drew _
      · exact (HBW.out.trans (drew_below _ _ _)).trans (drew_below _ _ _)
end Go.Proofs.YtcjomeghcihecaaDoor
