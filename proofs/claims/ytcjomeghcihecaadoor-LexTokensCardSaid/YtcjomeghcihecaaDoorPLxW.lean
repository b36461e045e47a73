/- Layer 4: a line is taken. -/
import Derived.Test.YtcjomeghcihecaaDoorPLxU
namespace Go.Proofs.YtcjomeghcihecaaDoor
open Go Go.ChangeShapes Go.WideShapes Go.ChangeAt Go.RowKit Go.PlainAid Go.Maps
set_option linter.unusedVariables false
set_option linter.unusedSimpArgs false
theorem row_after (s : ByteArray) (a : Nat) {n : Nat} (hn : n ≤ (rowOf (Rs s a)).length) : (rowOf (Rs s a)).length = n + (rowOf (Rs s (a + n))).length := by
  have h := rowOf_drop (Rs s a) hn
  rw [Rs_drop] at h
  have := congrArg List.length h
  rw [List.length_drop] at this
  omega
theorem skip_at (s : ByteArray) (a : Nat) : skipR (rowOf (Rs s a)) = rowOf (Rs s (a + skN (Rs s a))) := by rw [skip_row, Rs_drop]
theorem skN_blk (s : ByteArray) (a : Nat) (h : skipR (rowOf (Rs s a)) ≠ []) : skN (Rs s a) = blkN (rowOf (Rs s a)) := by
  rw [blkN_row]
  unfold skN
  split
  · rename_i hh
    refine absurd ?_ h
    rw [skip_at]
    have h2 : skN (Rs s a) = (rowOf (Rs s a)).length := by unfold skN; rw [if_pos hh]
    have h3 := row_after s a (n := skN (Rs s a)) (by rw [h2]; exact Nat.le_refl _)
    exact List.length_eq_zero_iff.1 (by omega)
  · rfl
theorem depD_lo {d k : Int} {t : Bs} (h : 0 ≤ d) : 0 ≤ depD d k t ∧ depD d k t ≤ d + 1 := by
  unfold depD
  split
  · split
    · omega
    · split
      · omega
      · omega
  · omega
/-- One token of a row's. -/
theorem toks_at {s : ByteArray} {k : Nat} {ln d : Int} (hne : rowOf (Rs s k) ≠ []) :
    toksD ln d (rowOf (Rs s k)) = match tokD (Rs s k) with
      | none => none
      | some p => (toksD ln (depD d p.1 p.2.1) (rowOf (Rs s (k + p.2.2 + skN (Rs s (k + p.2.2)))))).map fun q => (⟨p.1, ln, p.2.1⟩ :: q.1, q.2) := by
  have htr := tokD_row (Rs s k)
  obtain ⟨c, r, hcr⟩ : ∃ c r, rowOf (Rs s k) = c :: r := by
    cases h : rowOf (Rs s k) with
    | nil => exact absurd h hne
    | cons c r => exact ⟨c, r, rfl⟩
  have hlen := fun p (hp : tokD (Rs s k) = some p) => tokD_row_len hp
  have hdrop := fun n (hn : n ≤ (rowOf (Rs s k)).length) => rowOf_drop (Rs s k) hn
  rw [hcr] at htr hlen hdrop ⊢
  rw [toksD_cons, htr]
  cases hp : tokD (Rs s k) with
  | none => rfl
  | some p =>
    simp only
    have h1 := hlen p hp
    have h2 := hdrop p.2.2 h1.2
    obtain ⟨m, hm⟩ : ∃ m, p.2.2 = m + 1 := ⟨p.2.2 - 1, by omega⟩
    have h3 : r.drop (p.2.2 - 1) = rowOf (Rs s (k + p.2.2)) := by
      rw [← Rs_drop, h2, hm]
      simp
    rw [h3, skip_at]
    cases toksD ln (depD d p.1 p.2.1) (rowOf (Rs s (k + p.2.2 + skN (Rs s (k + p.2.2))))) <;> rfl
/-- What a line's taking leaves. -/
def LineP (D : DataW Unit) (w : World) (B x mb kb : Nat) (σ : LxD) (r : Except Int (List Tk × LxS)) (e : Ending) (w' : World) : Prop := match r with
  | .ok p => e = .returned (.int .i64 0) ∧ LX D w' B x mb kb { σ with a := σ.a + (rowOf (Rs σ.s σ.a)).length, d := p.2.d, op := p.2.op, out := σ.out ++ p.1 } ∧ Below B w w'
  | .error n => e = .returned (.int .i64 n) ∧ (n = 20 ∨ n = 21) ∧ BadP D w w' B x mb kb σ.ln
set_option maxRecDepth 100000 in
set_option maxHeartbeats 4000000 in
theorem takeLine_any {D : DataW Unit} (hD : TabD D) {w : World} {B x mb kb : Nat} {σ : LxD} (h : LX D w B x mb kb σ) (hs : σ.s.size ≤ 20000) (ha : σ.a ≤ σ.s.size) (hop : OpOk σ.op) (hfit : ∀ t ∈ σ.op, t ≤ 20000)
    (hol : σ.out.length + σ.op.length ≤ 800000) (hd : 0 ≤ σ.d ∧ σ.d ≤ 900000) :
    Calls Tryd.prog 20 #[.pointer (some ⟨x, 0, none⟩)] w (LineP D w B x mb kb σ (rowD σ.ln ⟨σ.d, σ.op⟩ (rowOf (Rs σ.s σ.a)))) := by
  obtain ⟨s, a, ln, d, op, out⟩ := σ
  simp only at h hs ha hop hfit hol hd ⊢
  have H := Lib.hid h
  have c1 := h.choose_spec.choose_spec.c.c1
  simp only at c1
  obtain ⟨k1, hk1⟩ : ∃ k, a + skN (Rs s a) = k := ⟨_, rfl⟩
  have hskl := skN_le (Rs s a)
  have hra := row_after s a hskl
  rw [hk1] at hra
  have hrl := row_len_le s a
  have hk1s : k1 ≤ s.size := by omega
  have hak1 : a ≤ k1 := by omega
  have hsk := skip_at s a
  rw [hk1] at hsk
  have HS := Lib.hid (skipBlanks_any (σ := ⟨s, a, ln, d, op, out⟩) H.out hs ha)
  simp only [hk1] at HS
  have HK1 := Lib.hid hk1
  have HRA := Lib.hid hra
  have HSKL := Lib.hid hskl
  have HRL := Lib.hid hrl
  clear h hk1 hskl hra hrl
  by_cases he : rowOf (Rs s k1) = []
  · have hrow : rowD ln ⟨d, op⟩ (rowOf (Rs s a)) = .ok ([], ⟨d, op⟩) := rowD_empty (by rw [hsk]; exact he) _ _
    rw [hrow]
    have hend : endB s k1 = true := by rw [endB_row hk1s, he]; rfl
    have hae : a + (rowOf (Rs s a)).length = k1 := by
      have h1 := HRA.out
      have h2 := HK1.out
      rw [he] at h1
      simp only [List.length_nil] at h1
      omega
    have HAE := Lib.hid hae
    clear hrow hsk he hae
    go_enter Tryd.func20, Tryd.ntmps20
    go_wp2_with fail
    refine HS.out.mono ?_
    rintro e w1 ⟨rfl, hx1, hb1⟩
    have HX1 := Lib.hid hx1
    have HB1 := Lib.hid hb1
    have HE := Lib.hid (atEnd_any hx1 hs hk1s)
    simp only [hend] at HE
    clear hx1 hb1
    go_wp2_with fail
    refine HE.out.mono ?_
    rintro e w2 ⟨rfl, n2, rfl⟩
    go_wp2_with fail
    refine bodyPost_ret (v := .int .i64 0) (by simp [results, Tryd.results20, go_sem]) rfl ⟨rfl, ?_, HB1.out.trans (drew_below _ _ _)⟩
    simp only [HAE.out, List.append_nil]
    exact HX1.out.drew _
  · have hend : endB s k1 = false := by
      rw [endB_row hk1s]
      cases hq : rowOf (Rs s k1) with
      | nil => exact absurd hq he
      | cons c r => rfl
    have hbk := skN_blk s a (by rw [hsk]; exact he)
    obtain ⟨bn, hbn⟩ : ∃ b, blkN (rowOf (Rs s a)) = b := ⟨_, rfl⟩
    rw [hbn] at hbk
    have hkb : k1 = a + bn := by rw [← HK1.out, hbk]
    have hrow : rowD ln ⟨d, op⟩ (rowOf (Rs s a)) = match (if d = 0 then indD ln bn op else some ([], op)) with
        | none => .error 21
        | some q => match toksD ln d (rowOf (Rs s k1)) with
          | none => .error 20
          | some p => .ok (q.1 ++ p.1 ++ endD ln p.2, ⟨p.2, q.2⟩) := by
      unfold rowD
      rw [hsk, if_neg he, hbn]
      rfl
    obtain ⟨RD, hRD⟩ : ∃ r, rowD ln ⟨d, op⟩ (rowOf (Rs s a)) = r := ⟨_, rfl⟩
    rw [hRD] at hrow ⊢
    have HRD := Lib.hid hrow
    have hbn2 : bn ≤ 20000 := by omega
    have hd0 := hd.1
    have hd1 := hd.2
    have w0 : IntKind.i64.wrap ((k1 : Int) - (a : Int)) = (bn : Int) := by rw [i64_in (by omega) (by omega)]; omega
    clear hsk he hbk hbn hkb hRD hrow hd
    go_enter Tryd.func20, Tryd.ntmps20
    go_wp2_with fail
    refine HS.out.mono ?_
    rintro e w1 ⟨rfl, hx1, hb1⟩
    have HX1 := Lib.hid hx1
    have HB1 := Lib.hid hb1
    have HE := Lib.hid (atEnd_any hx1 hs hk1s)
    simp only [hend] at HE
    clear hx1 hb1
    go_wp2_with fail
    refine HE.out.mono ?_
    rintro e w2 ⟨rfl, n2, rfl⟩
    have HX2 := Lib.hid (HX1.out.drew n2)
    have HB2 := Lib.hid (HB1.out.trans (drew_below B w1 n2))
    obtain ⟨W2, hW2⟩ : ∃ W, w1.drewN n2 = W := ⟨_, rfl⟩
    rw [hW2] at HX2 HB2 ⊢
    have y1 := HX2.out.choose_spec.choose_spec.c.c1
    have y3 := HX2.out.choose_spec.choose_spec.c.c3
    simp only at y1 y3
    obtain ⟨db, hdb⟩ : ∃ b, (d == 0) = b := ⟨_, rfl⟩
    have HDB := Lib.hid hdb
    clear hW2 c1
    go_upto_if 18 with fail
    clear hdb
    go_cut [4] from 19 to 28 (fun e4 wx => ∃ q : List Tk × List Int, (if d = 0 then indD ln bn op else some ([], op)) = some q ∧ LX D wx B x mb kb ⟨s, k1, ln, d, q.2, out ++ q.1⟩ ∧ Below B w wx)
    case first =>
      cases db with
      | true =>
        have hdz : d = 0 := by simpa using HDB.out
        have HI := Lib.hid (indent_any (σ := ⟨s, k1, ln, d, op, out⟩) HX2.out bn hbn2 hop hfit (by show out.length + op.length ≤ 900000; omega))
        simp only at HI
        rw [if_pos hdz] at HRD
        have HDZ := Lib.hid hdz
        clear hdz
        cases hind : indD ln bn op with
        | none =>
          rw [hind] at HI HRD
          go_wp2_with fail
          refine HI.out.mono ?_
          rintro e w3 ⟨rfl, σ3, hx3, hl3, hb3⟩
          have HX3 := Lib.hid hx3
          have HB3 := Lib.hid (HB2.out.trans hb3)
          clear hx3 hb3
          go_wp2_with fail
          refine bodyPost_ret (v := .int .i64 21) (by simp [results, Tryd.results20, go_sem]) rfl ?_
          rw [HRD.out]
          exact ⟨rfl, .inr rfl, σ3, HX3.out, hl3, HB3.out⟩
        | some q =>
          rw [hind] at HI HRD
          go_wp2_with fail
          refine HI.out.mono ?_
          rintro e w3 ⟨rfl, hx3, hb3⟩
          have HX3 := Lib.hid hx3
          have HB3 := Lib.hid (HB2.out.trans hb3)
          clear hx3 hb3
          go_wp2_with fail
          go_meet
          exact ⟨q, by rw [if_pos HDZ.out]; first | rfl | exact hind, HX3.out, HB3.out⟩
      | false =>
        have hdz : ¬ d = 0 := by simpa using HDB.out
        have HDZ := Lib.hid hdz
        clear hdz
        go_wp2_with fail
        go_meet
        exact ⟨([], op), by rw [if_neg HDZ.out], by simpa using HX2.out, HB2.out⟩
    case rest =>
      obtain ⟨q, hq, hx3, hb3⟩ := hcut
      have HX3 := Lib.hid hx3
      have HB3 := Lib.hid hb3
      rw [hq] at HRD
      have hql : q.1.length + q.2.length ≤ op.length + 2 * op.length + 2 := by
        by_cases hdz : d = 0
        · rw [if_pos hdz] at hq
          rcases indD_len hop (by omega) hq with ⟨e1, e2⟩ | ⟨j, e1, e2⟩
          · rw [e1, e2]; simp only [List.length_singleton]; omega
          · rw [e1]; simp only [outsD, List.length_replicate]; omega
        · rw [if_neg hdz] at hq
          simp only [Option.some.injEq] at hq
          subst hq
          simp only [List.length_nil]
          omega
      have hqo : q.1.length + out.length ≤ 810000 := by
        by_cases hdz : d = 0
        · rw [if_pos hdz] at hq
          rcases indD_len hop (by omega) hq with ⟨e1, e2⟩ | ⟨j, e1, e2⟩
          · rw [e1]; simp only [List.length_singleton]; omega
          · rw [e1]; simp only [outsD, List.length_replicate]; omega
        · rw [if_neg hdz] at hq
          simp only [Option.some.injEq] at hq
          subst hq
          simp only [List.length_nil]
          omega
      obtain ⟨T0, hT0⟩ : ∃ t, toksD ln d (rowOf (Rs s k1)) = t := ⟨_, rfl⟩
      rw [hT0] at HRD
      have HT0 := Lib.hid hT0
      clear hx3 hb3 hq hql y1 y3 hT0
      go_wp2_with fail
      go_loopw [5] (fun e5 wr => ∃ (k : Nat) (d2 : Int) (acc : List Tk), k1 ≤ k ∧ k ≤ s.size ∧ (rowOf (Rs s k1)).length = (k - k1) + (rowOf (Rs s k)).length ∧ T0 = (toksD ln d2 (rowOf (Rs s k))).map (fun p => (acc ++ p.1, p.2)) ∧
        0 ≤ d2 ∧ d2 ≤ d + ((k - k1 : Nat) : Int) ∧ acc.length ≤ k - k1 ∧ LX D wr B x mb kb ⟨s, k, ln, d2, q.2, (out ++ q.1) ++ acc⟩ ∧ Below B w wr) (fun e5 wr => s.size - atO x wr)
      case atStart =>
        refine ⟨k1, d, [], Nat.le_refl _, hk1s, by omega, ?_, hd0, by omega, by simp, by simpa using HX3.out, HB3.out⟩
        rw [HT0.out]; cases T0 <;> simp
      case round =>
        obtain ⟨k, d2, acc, hk1k, hks, hrk, hT, hd20, hd21, hacc, hx, hbw⟩ := hrel
        have HX := Lib.hid hx
        have HBW := Lib.hid hbw
        have HT := Lib.hid hT
        have HRK := Lib.hid hrk
        have HATO := Lib.hid hx.atO
        have HEK := Lib.hid (atEnd_any hx hs hks)
        simp only at HEK
        have y3 := fun n => (hx.drew n).choose_spec.choose_spec.c.c3
        simp only at y3
        clear hx hbw hT hrk
        by_cases he2 : rowOf (Rs s k) = []
        · have hek : endB s k = true := by rw [endB_row hks, he2]; rfl
          rw [hek] at HEK
          have hTv : T0 = some (acc, d2) := by rw [HT.out, he2, toksD_nil]; simp
          have hkk : a + (rowOf (Rs s a)).length = k := by
            have h1 := HRK.out
            have h2 := HRA.out
            have h3 := HK1.out
            rw [he2] at h1
            simp only [List.length_nil] at h1
            omega
          have hRDv : RD = .ok (q.1 ++ acc ++ endD ln d2, ⟨d2, q.2⟩) := by rw [HRD.out, hTv]
          have HRDV := Lib.hid hRDv
          have HKK := Lib.hid hkk
          clear hek hTv hkk hRDv he2
          by_cases hdz : d2 = 0
          · have hdb : (d2 == 0) = true := by simpa using hdz
            have hend2 : endD ln d2 = [⟨1, ln, []⟩] := by unfold endD; rw [if_pos hdz]
            have HEND2 := Lib.hid hend2
            clear hdz hend2
            go_wp2_with (first
              | (go_at_call 31; (with_reducible refine HEK.out.mono ?_); rintro e w7 ⟨rfl, n7, rfl⟩)
              | fail)
            refine (put_any (σ := ⟨s, k, ln, d2, q.2, (out ++ q.1) ++ acc⟩) (HX.out.drew n7) (by simp only [List.length_append]; omega) 1 []).mono ?_
            rintro e w8 ⟨rfl, hx8, hb8⟩
            have HX8 := Lib.hid hx8
            have HB8 := Lib.hid ((HBW.out.trans (drew_below B wr n7)).trans hb8)
            clear hx8 hb8
            go_wp2_with fail
            refine bodyPost_ret (v := .int .i64 0) (by simp [results, Tryd.results20, go_sem]) rfl ?_
            rw [HRDV.out, HEND2.out]
            refine ⟨rfl, ?_, HB8.out⟩
            simp only [HKK.out]
            have hq8 := HX8.out
            simp only [List.append_assoc] at hq8 ⊢
            exact hq8
          · have hdb : (d2 == 0) = false := by simpa using hdz
            have hend2 : endD ln d2 = [] := by unfold endD; rw [if_neg hdz]
            have HEND2 := Lib.hid hend2
            clear hdz hend2
            go_wp2_with (first
              | (go_at_call 31; (with_reducible refine HEK.out.mono ?_); rintro e w7 ⟨rfl, n7, rfl⟩)
              | fail)
            refine bodyPost_ret (v := .int .i64 0) (by simp [results, Tryd.results20, go_sem]) rfl ?_
            rw [HRDV.out, HEND2.out]
            refine ⟨rfl, ?_, HBW.out.trans (drew_below _ _ _)⟩
            simp only [HKK.out, List.append_nil]
            have hq8 := HX.out.drew n7
            simp only [List.append_assoc] at hq8 ⊢
            exact hq8
        · have hek : endB s k = false := by
            rw [endB_row hks]
            cases hq2 : rowOf (Rs s k) with
            | nil => exact absurd hq2 he2
            | cons c r => rfl
          rw [hek] at HEK
          have hklt : k < s.size := by
            rcases Nat.lt_or_ge k s.size with h | h
            · exact h
            · exact absurd (by rw [Rs_end h]; rfl) he2
          have htk := toks_at (ln := ln) (d := d2) he2
          have HTT := Lib.hid (fun n => takeToken_any hD (σ := ⟨s, k, ln, d2, q.2, (out ++ q.1) ++ acc⟩) (HX.out.drew n) hs hklt (by simp only [List.length_append]; omega) (by simp only; omega))
          simp only at HTT
          have hlenp := fun p (hp : tokD (Rs s k) = some p) => tokD_row_len hp
          clear hek he2
          cases htok : tokD (Rs s k) with
          | none =>
            rw [htok] at HTT htk
            have hRDv : RD = .error 20 := by rw [HRD.out, HT.out, htk]; rfl
            have HRDV := Lib.hid hRDv
            clear hRDv htk hlenp htok
            go_wp2_with (first
              | (go_at_call 31; (with_reducible refine HEK.out.mono ?_); rintro e w7 ⟨rfl, n7, rfl⟩)
              | fail)
            refine (HTT.out n7).mono ?_
            rintro e w8 ⟨rfl, σ8, hx8, hl8, hb8⟩
            have HX8 := Lib.hid hx8
            have HB8 := Lib.hid ((HBW.out.trans (drew_below B wr n7)).trans hb8)
            clear hx8 hb8
            go_wp2_with fail
            refine bodyPost_ret (v := .int .i64 20) (by simp [results, Tryd.results20, go_sem]) rfl ?_
            rw [HRDV.out]
            exact ⟨rfl, .inl rfl, σ8, HX8.out, hl8, HB8.out⟩
          | some p =>
            rw [htok] at HTT htk
            have hl := hlenp p htok
            have hra2 := row_after s k hl.2
            have hrl2 := row_len_le s k
            have hsk2 := skN_le (Rs s (k + p.2.2))
            have hra3 := row_after s (k + p.2.2) hsk2
            have hdep := depD_lo (k := p.1) (t := p.2.1) hd20
            have HL := Lib.hid (And.intro hl (And.intro hra2 (And.intro hrl2 (And.intro hsk2 hra3))))
            have HTK := Lib.hid htk
            have HDEP := Lib.hid hdep
            clear hl hra2 hrl2 hsk2 hra3 htk hlenp htok hdep
            go_wp2_with (first
              | (go_at_call 31; (with_reducible refine HEK.out.mono ?_); rintro e w7 ⟨rfl, n7, rfl⟩)
              | fail)
            refine (HTT.out n7).mono ?_
            rintro e w8 ⟨rfl, hx8, hb8⟩
            have HX8 := Lib.hid hx8
            have HB8 := Lib.hid ((HBW.out.trans (drew_below B wr n7)).trans hb8)
            clear hx8 hb8
            go_wp2_with fail
            refine (skipBlanks_any HX8.out hs (by show k + p.2.2 ≤ s.size; have := HL.out; omega)).mono ?_
            rintro e w9 ⟨rfl, hx9, hb9⟩
            have HX9 := Lib.hid hx9
            have HB9 := Lib.hid (HB8.out.trans hb9)
            simp only at HX9
            clear hx9 hb9
            go_wp2_with fail
            go_roundw
            case rel =>
              have hL := HL.out
              have hR := HRK.out
              refine ⟨k + p.2.2 + skN (Rs s (k + p.2.2)), depD d2 p.1 p.2.1, acc ++ [⟨p.1, ln, p.2.1⟩], by omega, by omega, by omega, ?_, HDEP.out.1, by have := HDEP.out.2; omega, by rw [List.length_append]; simp only [List.length_singleton]; omega, ?_, HB9.out⟩
              · rw [HT.out, HTK.out]
                cases toksD ln (depD d2 p.1 p.2.1) (rowOf (Rs s (k + p.2.2 + skN (Rs s (k + p.2.2))))) with
                | none => rfl
                | some z => simp
              · have h9 := HX9.out
                simp only [List.append_assoc] at h9 ⊢
                exact h9
            case measure =>
              have h1 := HX9.out.atO
              have h2 := HATO.out
              have hL := HL.out
              simp only at h1 h2
              first | (rw [h1, h2]; omega) | (simp_all; omega)
end Go.Proofs.YtcjomeghcihecaaDoor
