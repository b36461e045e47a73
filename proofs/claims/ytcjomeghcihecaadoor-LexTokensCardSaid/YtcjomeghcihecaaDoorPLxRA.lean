/- Layer 4: the document's Lex, walked. -/
import Derived.Test.YtcjomeghcihecaaDoorPLxR9
namespace Go.Proofs.YtcjomeghcihecaaDoor
open Go Go.ChangeShapes Go.WideShapes Go.ChangeAt Go.RowKit Go.PlainAid Go.Maps
set_option linter.unusedVariables false
set_option linter.unusedSimpArgs false
theorem own_some2 {w : World} {B sz n : Nat} {T : TypeId} {v : Value} {xs : List Value} (h : w.ownsRow B T sz v n xs) (hn : 0 < n) : ∃ g cap, v = .slice (some ⟨g, 0, none⟩) n cap ∧ B ≤ g ∧ g < w.heap.size := by
  rcases h.2 with ⟨_, h0⟩ | ⟨g, cap, cur, hv, hb, hg, _⟩
  · omega
  · exact ⟨g, cap, hv, hb, (Array.getElem?_eq_some_iff.1 hg).1⟩
theorem own_at1 {w : World} {B n g c : Nat} {T : TypeId} {xs : List Value} (h : w.ownsRow B T 1 (.slice (some ⟨g, 0, none⟩) n c) n xs) {i : Nat} {u : Value} (hu : xs[i]? = some u) : w.cell? ⟨g, i, none⟩ = some u := by
  have hl := h.1
  have hi := (List.getElem?_eq_some_iff.1 hu).1
  rw [h.cellAt i (by omega), hu]
theorem os_at {L : List Bs} {i : Nat} {r : Bs} (h : L[i]? = some r) : (cS L)[i]? = some (.string (bsOf r)) := by unfold cS; rw [List.getElem?_map, h]; rfl
theorem lexD_parts {l : Bs} (h : l.length ≤ 20000) : (∀ e, rowsD 1 ⟨0, [0]⟩ (splitB l) = .error e → lexD l = .error e) ∧ (∀ out d op, rowsD 1 ⟨0, [0]⟩ (splitB l) = .ok (out, ⟨d, op⟩) → lexD l = .ok (out ++ outsD (op.length - 1) (splitB l).length ++ [⟨0, (splitB l).length, []⟩])) := by
  unfold lexD
  rw [if_neg (by omega)]
  exact ⟨fun e he => by rw [he], fun out d op ho => by rw [ho]⟩
theorem split_rows (l : Bs) : (splitB l).length ≤ l.length + 1 ∧ ∀ r ∈ splitB l, r.length ≤ l.length ∧ NoNl r := by
  refine ⟨by rw [splitB_len]; have := List.count_le_length (a := (10 : UInt8)) (l := l); omega, fun r hr => ⟨?_, splitB_clean l r hr⟩⟩
  have h := splitB_sum l
  have : ∀ (R : List Bs), r ∈ R → r.length ≤ (R.map List.length).sum := by
    intro R
    induction R with
    | nil => intro h; cases h
    | cons x R ih =>
      intro h
      simp only [List.map_cons, List.sum_cons]
      rcases List.mem_cons.1 h with rfl | h
      · omega
      · have := ih h; omega
  have := this _ hr
  omega
def IndQ (d ln : Int) (row : Bs) (op : List Int) (q : List Tk × List Int) : Prop := (if d = 0 then indD ln (blkN row) op else some ([], op)) = some q
theorem rowD_21 {ln : Int} {op : List Int} {row : Bs} (h : skipR row ≠ []) (hi : indD ln (blkN row) op = none) : rowD ln ⟨0, op⟩ row = .error 21 := by
  unfold rowD
  rw [if_neg h]
  simp only [if_true, hi]
theorem rowD_20 {ln d : Int} {op : List Int} {row : Bs} (h : skipR row ≠ []) {q : List Tk × List Int} (hi : (if d = 0 then indD ln (blkN row) op else some ([], op)) = some q) (ht : toksD ln d (skipR row) = none) : rowD ln ⟨d, op⟩ row = .error 20 := by
  unfold rowD
  rw [if_neg h]
  simp only [hi, ht]
theorem rowD_go {ln d : Int} {op : List Int} {row : Bs} (h : skipR row ≠ []) {q : List Tk × List Int} (hi : (if d = 0 then indD ln (blkN row) op else some ([], op)) = some q) {p : List Tk × Int} (ht : toksD ln d (skipR row) = some p) : rowD ln ⟨d, op⟩ row = .ok (q.1 ++ p.1 ++ endD ln p.2, ⟨p.2, q.2⟩) := by
  unfold rowD
  rw [if_neg h]
  simp only [hi, ht]
theorem OpOk.tail {x : Int} {r : List Int} (h : OpOk (x :: r)) (hx : 0 < x) : OpOk r := by
  obtain ⟨q, e, hq⟩ := h
  cases q with
  | nil => simp only [List.nil_append, List.cons.injEq] at e; omega
  | cons y q =>
    simp only [List.cons_append, List.cons.injEq] at e
    exact ⟨q, e.2, fun z hz => hq z (List.mem_cons_of_mem _ hz)⟩
def slN : Value → Nat
  | .slice _ n _ => n
  | _ => 0
/-- Indentations closed so far. -/
def PopI (n : Int) (op1 op2 : List Int) (out1 out2 : List Tk) (ln : Int) : Prop := popD n op1 = popD n op2 ∧ OpOk op2 ∧ op2.length ≤ op1.length ∧ out2 = out1 ++ outsD (op1.length - op2.length) ln
theorem PopI.start {n ln : Int} {op : List Int} {out : List Tk} (h : OpOk op) : PopI n op op out out ln := ⟨rfl, h, Nat.le_refl _, by rw [Nat.sub_self]; simp [outsD]⟩
theorem PopI.step {n ln x : Int} {op1 r : List Int} {out1 out2 : List Tk} (h : PopI n op1 (x :: r) out1 out2 ln) (hn : 0 ≤ n) (hx : n < x) : PopI n op1 r out1 (out2 ++ [⟨3, ln, []⟩]) ln := by
  obtain ⟨h1, h2, h3, h4⟩ := h
  simp only [List.length_cons] at h3 h4
  refine ⟨?_, h2.tail (by omega), by omega, ?_⟩
  · rw [h1]; simp only [popD]; rw [if_pos hx]
  · rw [h4, List.append_assoc]
    congr 1
    have e : op1.length - r.length = (op1.length - (r.length + 1)) + 1 := by omega
    rw [e]
    unfold outsD
    rw [List.replicate_succ']
theorem PopI.done {n ln x : Int} {op1 r : List Int} {out1 out2 : List Tk} (h : PopI n op1 (x :: r) out1 out2 ln) (hx : ¬ n < x) : popD n op1 = x :: r := by
  rw [h.1]; simp only [popD]; rw [if_neg hx]
theorem ind_len {ln n : Int} {op : List Int} (ho : OpOk op) {q : List Tk × List Int} (h : indD ln n op = some q) : q.2.length + q.1.length ≤ op.length + 2 := by
  unfold indD at h
  split at h
  · simp only [Option.some.injEq] at h
    rw [← h]
    simp only [List.length_cons, List.length_nil]
    omega
  · split at h
    · simp only [Option.some.injEq] at h
      rw [← h]
      have := popD_len n op
      simp only [outsD, List.length_replicate]
      omega
    · cases h
theorem open_eq (t : Bs) : (true && isOpenB t) = ((t == [40]) || (t == [91]) || (t == [123])) := by
  unfold isOpenB
  rw [Bool.eq_iff_iff]
  simp only [Bool.true_and, decide_eq_true_eq, Bool.or_eq_true, beq_iff_eq, or_assoc]
theorem shut_eq (t : Bs) : (true && isShutB t) = ((t == [41]) || (t == [93]) || (t == [125])) := by
  unfold isShutB
  rw [Bool.eq_iff_iff]
  simp only [Bool.true_and, decide_eq_true_eq, Bool.or_eq_true, beq_iff_eq, or_assoc]
theorem Bx3.keepX {C : Nat} {w w' : World} {x y z : Value} {T : TypeId} (h : Bx3 w C x y z T) (e : w'.heap[C]? = w.heap[C]?) : Bx3 w' C x y z T := e.trans h
theorem open_shut {t : Bs} (h : isOpenB t = true) : isShutB t = false := by
  unfold isOpenB at h
  simp only [decide_eq_true_eq] at h
  rcases h with rfl | rfl | rfl <;> rfl
theorem dep_eq {dk pk : Int} {tx : Bs} {ob sb : Bool} (h0 : 0 ≤ dk) (ho : ((pk == 9) && isOpenB tx) = ob) (hs : ((pk == 9) && isShutB tx) = sb) : depD dk pk tx = if (sb && decide (0 < (if ob = true then dk + 1 else dk))) = true then (if ob = true then dk + 1 else dk) - 1 else (if ob = true then dk + 1 else dk) := by
  unfold depD
  by_cases hk : pk = 9
  · have hb : (pk == 9) = true := by simp [hk]
    rw [hb, Bool.true_and] at ho hs
    rw [if_pos hk, ho, hs]
    cases hob : ob with
    | true =>
      have h := open_shut (ho.trans hob)
      rw [hs] at h
      simp [h]
    | false =>
      simp only [if_neg (show ¬ (false = true) by decide)]
      cases sb with
      | false => simp
      | true =>
        simp only [if_true, Bool.true_and, decide_eq_true_eq]
        split <;> omega
  · have hb : (pk == 9) = false := by simpa using hk
    rw [hb, Bool.false_and] at ho hs
    subst ho
    subst hs
    simp [hk]
theorem outs_more (out : List Tk) {k : Nat} {ln : Int} (h : 1 ≤ k) : out ++ outsD (k + 1 - 1) ln = out ++ outsD (k - 1) ln ++ [⟨3, ln, []⟩] := by
  obtain ⟨m, rfl⟩ : ∃ m, k = m + 1 := ⟨k - 1, by omega⟩
  rw [List.append_assoc]
  congr 1
  unfold outsD
  rw [show m + 1 + 1 - 1 = (m + 1 - 1) + 1 by omega, List.replicate_succ']
def IndC (A x0 : Int) (r0 op1 : List Int) (out out1 : List Tk) (ln : Int) : Prop := (x0 < A ∧ op1 = A :: x0 :: r0 ∧ out1 = out ++ [⟨2, ln, []⟩]) ∨ (¬ x0 < A ∧ op1 = x0 :: r0 ∧ out1 = out)
theorem ind_yes {A x0 x2 ln : Int} {r0 r2 op1 : List Int} {out out1 out2 : List Tk} (hc : IndC A x0 r0 op1 out out1 ln) (h : PopI A op1 (x2 :: r2) out1 out2 ln) (hp : popD A op1 = x2 :: r2) (hx : x2 = A) : ∃ q, indD ln A (x0 :: r0) = some q ∧ q.2 = x2 :: r2 ∧ out ++ q.1 = out2 := by
  have ho := h.2.2.2
  rcases hc with ⟨h1, rfl, rfl⟩ | ⟨h1, rfl, rfl⟩
  · have e : popD A (A :: x0 :: r0) = A :: x0 :: r0 := by simp [popD]
    rw [e] at hp
    refine ⟨([⟨2, ln, []⟩], A :: x0 :: r0), by unfold indD; rw [if_pos (by simpa using h1)], hp, ?_⟩
    rw [ho, ← hp, Nat.sub_self]
    simp [outsD]
  · refine ⟨(outsD ((x0 :: r0).length - (x2 :: r2).length) ln, x2 :: r2), ?_, rfl, ho.symm⟩
    unfold indD
    rw [if_neg (by simpa using h1), hp, if_pos (by simpa using hx)]
theorem ind_no {A x0 x2 ln : Int} {r0 r2 op1 : List Int} {out out1 : List Tk} (hc : IndC A x0 r0 op1 out out1 ln) (hp : popD A op1 = x2 :: r2) (hx : x2 ≠ A) : indD ln A (x0 :: r0) = none := by
  rcases hc with ⟨h1, rfl, rfl⟩ | ⟨h1, rfl, rfl⟩
  · have e : popD A (A :: x0 :: r0) = A :: x0 :: r0 := by simp [popD]
    rw [e] at hp
    simp only [List.cons.injEq] at hp
    exact absurd hp.1.symm hx
  · unfold indD
    rw [if_neg (by simpa using h1), hp, if_neg (by simpa using hx)]
set_option maxRecDepth 100000 in
set_option maxHeartbeats 8000000 in
theorem lexr_any (v : Value) (l : Bs) (w : World) (hr : R8 w v l) :
    Calls Tryd.prog 10 #[v] w (LexP w (lexD l)) := by
  have HR := Lib.hid hr
  obtain ⟨p, c, rfl⟩ := r8_form hr
  clear hr
  by_cases hbig : 20000 < l.length
  · have hbz : (l.length : Int) > 20000 := by omega
    have hv : lexD l = .error (0, 24) := by unfold lexD; rw [if_pos hbig]
    rw [hv]
    go_enter Tryd.func10, Tryd.ntmps10
    go_wp2_with fail
    exact bodyPost_ret (v := .tuple #[.slice none 0 0, .int .i64 0, .int .i64 24]) (by simp [results, Tryd.results10, go_sem]) rfl ⟨rfl, Below.refl _ _⟩
  · have hbz : ¬ ((l.length : Int) > 20000) := by omega
    have hll : l.length ≤ 20000 := by omega
    obtain ⟨LR, hLR⟩ : ∃ r, lexD l = r := ⟨_, rfl⟩
    rw [hLR]
    have HP := Lib.hid (lexD_parts hll)
    rw [hLR] at HP
    have HSR := Lib.hid (split_rows l)
    have HRB := Lib.hid (fun (i : Nat) (out : List Tk) (d : Int) (op : List Int) h => rows_bounds hll (i := i) (out := out) (d := d) (op := op) h)
    have hcv := conv_in HR.out
    have HLI := Lib.hid (lines_r l w hll)
    obtain ⟨R, hR⟩ : ∃ x, splitB l = x := ⟨_, rfl⟩
    rw [hR] at HP HSR HRB HLI
    clear hLR hR hbig
    go_enter Tryd.func10, Tryd.ntmps10
    go_wp2_with fail
    refine HLI.out.mono ?_
    rintro e w1 ⟨v5, rfl, hos, hb1⟩
    have HOS := Lib.hid hos
    have HB1 := Lib.hid hb1
    have hw1 := hb1.size
    obtain ⟨p5, k5, rfl⟩ := owns_form hos
    have hRl : R.length ≤ 20001 := by have := HSR.out.1; omega
    obtain ⟨B, hB⟩ : ∃ b, w1.heap.size = b := ⟨_, rfl⟩
    have hB1 : B ≤ w1.heap.size := by omega
    have hB2 : w1.heap.size ≤ B := by omega
    have hwB : w.heap.size ≤ B := by omega
    clear hos hb1 hcv HLI hB
    go_upto_region 8 with fail
    have hrx : RX (w1.alloc (.cells #[.int .i64 0] 3)) B (.slice (some ⟨w1.heap.size, 0, none⟩) 1 1) (.slice none 0 0) [0] [] := ⟨⟨rfl, .inr ⟨w1.heap.size, 1, #[.int .i64 0], rfl, hB1, heap_alloc_new _ _, Nat.le_refl _, by decide, rfl, rfl⟩⟩, World.ownsRow_nil _ _ _ _, fun g hg h => by cases h⟩
    have HRX0 := Lib.hid hrx
    clear hrx
    have HB0 := Lib.hid (show Below B w1 (w1.alloc (.cells #[.int .i64 0] 3)) from (Below.refl _ _).alloc hB1 _)
    go_loopw [6, 7, 8, 9] (fun s6 s7 s8 s9 wr => ∃ (i : Nat) (d : Int) (op : List Int) (out : List Tk), s7 = .int .i64 d ∧ s9 = .int .i64 i ∧ i ≤ R.length ∧ rowsD 1 ⟨0, [0]⟩ (R.take i) = .ok (out, ⟨d, op⟩) ∧ RX wr B s6 s8 op out ∧ Below B w1 wr) (fun s6 s7 s8 s9 wr => R.length - (intOf s9).toNat)
    case atStart => exact ⟨0, 0, [0], [], by go_num, by go_num, Nat.zero_le _, rfl, HRX0.out, HB0.out⟩
    case round =>
      obtain ⟨i, d, op, out, rfl, rfl, hi, hrows, hrx, hbr⟩ := hrel
      obtain ⟨hop, hsum, hd0, hd9⟩ := HRB.out i out d op hrows
      have HOP := Lib.hid hop
      have HRW := Lib.hid hrows
      have HRX := Lib.hid hrx
      have HBR := Lib.hid hbr
      have hrs : B ≤ wr.heap.size := by have := hbr.size; omega
      have w1x : IntKind.i64.wrap ((i : Int) + 1) = (i : Int) + 1 := i64_in (by omega) (by omega)
      have hopl := hop.len
      obtain ⟨x0, r0, rfl⟩ : ∃ x r, op = x :: r := by
        cases op with
        | nil => simp at hopl
        | cons x r => exact ⟨x, r, rfl⟩
      clear hop hrows hrx hbr
      by_cases hlt : i < R.length
      · have hz1 : (i : Int) < (R.length : Int) := by omega
        have hrow : R[i]? = some R[i] := List.getElem?_eq_getElem hlt
        obtain ⟨row, hrowe⟩ : ∃ x, R[i] = x := ⟨_, rfl⟩
        rw [hrowe] at hrow
        have hrlen := (HSR.out.2 row (by rw [← hrowe]; exact List.getElem_mem hlt)).1
        obtain ⟨gR, cR, hvR, hgR1, hgR2⟩ := own_some2 HOS.out (by omega)
        injection hvR with e1 e2 e3
        subst e1
        subst e3
        have hcell := below_cell (HBR.out.mono hB2) (own_at1 HOS.out (os_at hrow))
        have HROW := Lib.hid hrow
        obtain ⟨s, hse⟩ : ∃ s, bsOf row = s := ⟨_, rfl⟩
        rw [hse] at hcell
        have hss : s.size = row.length := by rw [← hse, Lib.size_eq]; rfl
        have hs2 : s.size ≤ 20000 := by omega
        have hRs : Rs s 0 = row := by rw [← hse]; rfl
        obtain ⟨hsk1, hsk2, _⟩ := skip_r s 0 (Nat.zero_le _)
        have hblk : blE s 0 ≠ s.size → blE s 0 = blkN row := fun h => by rw [← hRs]; exact blE_blk h
        obtain ⟨A, hA⟩ : ∃ x, blE s 0 = x := ⟨_, rfl⟩
        rw [hA, hRs] at hsk1
        rw [hA] at hsk2 hblk
        have HBL := Lib.hid (show Calls Tryd.prog 24 #[.string s, .int .i64 0] wr (fun e w' => e = .returned (.int .i64 (blE s 0 : Nat)) ∧ wr = w') from blanks_r s wr hs2 0 (Nat.zero_le _))
        rw [hA] at HBL
        have HSK := Lib.hid hsk1
        have HBK := Lib.hid hblk
        clear hrowe hrow hse hss hRs hsk1 hblk hA
        go_upto_region 12 with (first | (go_at_call 24; (with_reducible refine HBL.out.mono ?_); rintro e w2 ⟨rfl, hw2⟩; subst hw2) | fail)
        by_cases hAe : A = s.size
        · have hb1 : ((A : Int) == (s.size : Int)) = true := by simp [hAe]
          have hrd : rowD ((i : Int) + 1) ⟨d, x0 :: r0⟩ row = .ok ([], ⟨d, x0 :: r0⟩) := rowD_empty (by rw [HSK.out, Rs_end (by omega)]) _ _
          have hnx := rows_step HROW.out HRW.out hrd
          rw [List.append_nil] at hnx
          have HNX := Lib.hid hnx
          clear hAe hrd hnx
          go_wp2_with fail
          go_roundw
          case rel => exact ⟨i + 1, d, x0 :: r0, out, by go_num, by go_num, hlt, HNX.out, HRX.out, HBR.out⟩
          case measure => simp [intOf]; omega
        · have hb1 : ((A : Int) == (s.size : Int)) = false := by simp; omega
          have hAlt : A < s.size := by omega
          have hskn : skipR row ≠ [] := by
            rw [HSK.out]
            obtain ⟨c0, r1, _⟩ := Rs_cons hAlt
            rw [r1]; exact List.cons_ne_nil _ _
          have hAb := HBK.out hAe
          have HAB := Lib.hid hAb
          have HSKN := Lib.hid hskn
          clear hAe hAb hskn
          go_upto_region 13 with fail
          go_upto_if 38 with fail
          obtain ⟨gO, cO, hvO, hcO, hcO2⟩ := HRX.out.top
          obtain ⟨pT, cT, hvT⟩ := owns_form HRX.out.t
          have hrl : r0.length + 1 + out.length ≤ 80001 := by simp only [List.length_cons] at hsum; omega
          go_cut [6, 8] from 39 to 86 (fun a b wx => ∃ q : List Tk × List Int, IndQ d ((i : Int) + 1) row (x0 :: r0) q ∧ RX wx B a b q.2 (out ++ q.1) ∧ Below B w1 wx)
          case first =>
            subst hvO
            subst hvT
            by_cases hd : d = 0
            · subst hd
              have w2x : IntKind.i64.wrap ((r0.length : Int) + 1 - 1) = (r0.length : Int) := by
                have e : (r0.length : Int) + 1 - 1 = (r0.length : Int) := by omega
                rw [e]; exact i64_in (by omega) (by omega)
              have hA0 : (0 : Int) ≤ (A : Int) := by omega
              have hA9 : (A : Int) ≤ 20000 := by omega
              have HPO := Lib.hid (RX.pushO HRX.out hrs (by simp only [List.length_cons] at hsum ⊢; omega) (A : Int))
              go_upto_if 46 with fail
              go_cut [6, 8] from 46 to 57 (fun a b wx => ∃ (op1 : List Int) (out1 : List Tk), RX wx B a b op1 out1 ∧ Below B w1 wx ∧ IndC (A : Int) x0 r0 op1 out out1 ((i : Int) + 1))
              case first =>
                by_cases hpu : x0 < (A : Int)
                · go_wp2_with (first
                    | (at_builtin; refine wpList_appR rfl (.tmp 47) (.tmp 49) rfl rfl rfl (by exact HPO.out _) ?_; rintro v8 w3 ⟨ho3, hb3⟩; have HB3 := Lib.hid (HBR.out.trans hb3); have hw3s : B ≤ w3.heap.size := (by have h1 := HB3.out.size; omega); have HPT := Lib.hid (RX.pushT ho3 hw3s (by omega) 2 ((i : Int) + 1) []); clear ho3 hb3 HPO)
                    | (at_builtin; refine wpList_appR rfl (.tmp 51) (.tmp 55) rfl rfl rfl (by exact HPT.out _) ?_; rintro v9 w4 ⟨ho4, hb4, _⟩; have HO4 := Lib.hid ho4; have HB4 := Lib.hid (HB3.out.trans hb4); clear ho4 hb4 HPT)
                    | fail)
                  go_meet
                  exact ⟨_, _, HO4.out, HB4.out, .inl ⟨hpu, rfl, rfl⟩⟩
                · go_wp2_with fail
                  go_meet
                  exact ⟨_, _, HRX.out, HBR.out, .inr ⟨by omega, rfl, rfl⟩⟩
              case rest =>
              obtain ⟨op1, out1, hrx1, hbr1, hcase⟩ := hcut
              have HCS := Lib.hid hcase
              have HRX1 := Lib.hid hrx1
              have HBR1 := Lib.hid hbr1
              have hop1 : OpOk op1 := by
                rcases hcase with ⟨h1, rfl, _⟩ | ⟨_, rfl, _⟩
                · exact HOP.out.push (by simpa using h1)
                · exact HOP.out
              have hl1 : op1.length + out1.length ≤ 80003 := by
                rcases hcase with ⟨_, rfl, rfl⟩ | ⟨_, rfl, rfl⟩
                · simp only [List.length_append, List.length_cons, List.length_nil] at hsum ⊢; omega
                · simp only [List.length_cons] at hsum ⊢; omega
              have HOP1 := Lib.hid hop1
              clear hcase hrx1 hbr1 hop1 w2x HPO hcO
              obtain ⟨wB, hwB'⟩ : ∃ wB : World, wB = wr := ⟨_, rfl⟩
              rw [← hwB'] at HRX HBR hrs
              clear hwB'
              go_upto_region 17 with fail
              go_loopw [6, 8] (fun a b wr => ∃ (op2 : List Int) (out2 : List Tk), RX wr B a b op2 out2 ∧ Below B w1 wr ∧ PopI (A : Int) op1 op2 out1 out2 ((i : Int) + 1)) (fun a b wr => slN a)
              case atStart => exact ⟨op1, out1, HRX1.out, HBR1.out, PopI.start HOP1.out⟩
              case round =>
                obtain ⟨op2, out2, hrx2, hbr2, hpi⟩ := hrel
                have hop2 := hpi.2.1.len
                have hol2 : op2.length ≤ op1.length ∧ out2.length ≤ out1.length + op1.length := by
                  have h3 := hpi.2.2.1
                  have h4 := congrArg List.length hpi.2.2.2
                  simp only [List.length_append, outsD, List.length_replicate] at h4
                  exact ⟨h3, by omega⟩
                obtain ⟨x2, r2, rfl⟩ : ∃ x r, op2 = x :: r := by
                  cases op2 with
                  | nil => simp at hop2
                  | cons x r => exact ⟨x, r, rfl⟩
                obtain ⟨gO2, cO2, hvO2, hcO2, hcO3⟩ := hrx2.top
                obtain ⟨pT2, cT2, hvT2⟩ := owns_form hrx2.t
                subst hvO2
                subst hvT2
                have HRX2 := Lib.hid hrx2
                have HBR2 := Lib.hid hbr2
                have HPI := Lib.hid hpi
                have hrs2 : B ≤ wr.heap.size := by have := hbr2.size; omega
                have hrl2 : r2.length + 1 ≤ 80003 := by have := hol2.1; simp only [List.length_cons] at this; omega
                have hol3 : out2.length ≤ 200000 := by omega
                have w2x : IntKind.i64.wrap ((r2.length : Int) + 1 - 1) = (r2.length : Int) := by
                  have e : (r2.length : Int) + 1 - 1 = (r2.length : Int) := by omega
                  rw [e]; exact i64_in (by omega) (by omega)
                clear hrx2 hbr2 hpi hop2 hol2
                by_cases hx2 : (A : Int) < x2
                · have hz5 : (r2.length : Int) ≤ (cO2 : Int) := by omega
                  have HPT := Lib.hid (RX.pushT HRX2.out.pop hrs2 (by omega) 3 ((i : Int) + 1) [])
                  go_wp2_with (first
                    | (at_builtin; refine wpList_appR rfl (.tmp 70) (.tmp 74) rfl rfl rfl (by exact HPT.out _) ?_; rintro v9 w4 ⟨ho4, hb4, _⟩; have HO4 := Lib.hid ho4; have HB4 := Lib.hid (HBR2.out.trans hb4); clear ho4 hb4 HPT)
                    | fail)
                  go_roundw
                  case rel => (repeat apply Exists.intro); exact ⟨⟨_, _, HO4.out, HB4.out, HPI.out.step hA0 hx2⟩, rfl⟩
                  case measure => simp [slN]
                · have hpop := HPI.out.done hx2
                  have HPOP := Lib.hid hpop
                  clear hpop
                  go_upto_region 20 with fail
                  by_cases hxe : x2 = (A : Int)
                  · have hb5 : ((A : Int) != x2) = false := by simp [hxe]
                    have hyes := ind_yes HCS.out HPI.out HPOP.out hxe
                    have HYES := Lib.hid hyes
                    clear hyes hxe hx2
                    go_wp2_with fail
                    go_meet
                    obtain ⟨q, hq1, hq2, hq3⟩ := HYES.out
                    exact ⟨q, by unfold IndQ; rw [if_pos rfl, ← HAB.out]; exact hq1, by rw [hq2, hq3]; exact HRX2.out, HBR2.out⟩
                  · have hb5 : ((A : Int) != x2) = true := by simp; omega
                    have hno := ind_no HCS.out HPOP.out hxe
                    rw [HAB.out] at hno
                    have hbad := HP.out.1 _ (rows_bad HROW.out HRW.out (rowD_21 HSKN.out hno))
                    have HBAD := Lib.hid hbad
                    clear hno hbad hxe hx2
                    go_wp2_with fail
                    rw [HBAD.out]
                    exact bodyPost_ret (v := .tuple #[.slice none 0 0, .int .i64 ((i : Int) + 1), .int .i64 21]) (by simp [results, Tryd.results10, go_sem]) rfl ⟨rfl, HB1.out.trans (HBR2.out.mono hwB)⟩
            · have hdb : (d == 0) = false := by simpa using hd
              have HQ := Lib.hid (show IndQ d ((i : Int) + 1) row (x0 :: r0) ([], x0 :: r0) by unfold IndQ; rw [if_neg hd])
              go_wp2_with fail
              go_meet
              exact ⟨([], x0 :: r0), HQ.out, by rw [List.append_nil]; exact HRX.out, HBR.out⟩
          case rest =>
          obtain ⟨q, hq, hrx2, hb2⟩ := hcut
          subst hvO
          subst hvT
          have HQ := Lib.hid hq
          have HRX2 := Lib.hid hrx2
          have HBR2 := Lib.hid hb2
          have hqo : OpOk q.2 := by
            unfold IndQ at hq
            split at hq
            · exact indD_ok HOP.out (by omega) hq
            · simp only [Option.some.injEq] at hq; rw [← hq]; exact HOP.out
          have hql : q.2.length + q.1.length ≤ 80005 := by
            unfold IndQ at hq
            split at hq
            · have h1 := ind_len HOP.out hq
              simp only [List.length_cons] at h1
              omega
            · simp only [Option.some.injEq] at hq; rw [← hq]; simp only [List.length_cons, List.length_nil]; omega
          have HQO := Lib.hid hqo
          have htk0 : TkI ((i : Int) + 1) d (skipR row) s A d [] := by rw [HSK.out]; exact TkI.start _ _ _ _
          have HTK0 := Lib.hid htk0
          obtain ⟨out0, hout0⟩ : ∃ x, out ++ q.1 = x := ⟨_, rfl⟩
          rw [hout0] at HRX2
          have HOUT0 := Lib.hid hout0
          have hol0 : out0.length ≤ 200000 := by rw [← hout0, List.length_append]; omega
          clear hq hrx2 hb2 hqo htk0 hcO hout0
          obtain ⟨wB, hwB'⟩ : ∃ wB : World, wB = wr := ⟨_, rfl⟩
          rw [← hwB'] at HRX HBR hrs hcell
          clear hwB'
          go_upto_region 22 with fail
          go_loopw [7, 8, 11] (fun s7 s8 s11 wr => ∃ (k : Nat) (dk : Int) (tk : List Tk), s7 = .int .i64 dk ∧ s11 = .int .i64 k ∧ k ≤ s.size ∧ tk.length ≤ k ∧ 0 ≤ dk ∧ dk ≤ 20000 + k ∧ TkI ((i : Int) + 1) d (skipR row) s k dk tk ∧ RX wr B u6 s8 q.2 (out0 ++ tk) ∧ Below B w1 wr) (fun s7 s8 s11 wr => s.size - (intOf s11).toNat)
          case atStart => exact ⟨A, d, [], by go_num, by go_num, hsk2, Nat.zero_le _, hd0, by omega, HTK0.out, by rw [List.append_nil]; exact HRX2.out, HBR2.out⟩
          case round =>
            obtain ⟨k, dk, tk, rfl, rfl, hk, htl, hdk0, hdk9, hti, hrx3, hbr3⟩ := hrel
            have HTI := Lib.hid hti
            have HRX3 := Lib.hid hrx3
            have HBR3 := Lib.hid hbr3
            have hrs3 : B ≤ wr.heap.size := by have := hbr3.size; omega
            obtain ⟨pT3, cT3, hvT3⟩ := owns_form hrx3.t
            subst hvT3
            have hlen3 : (out0 ++ tk).length ≤ 220000 := by rw [List.length_append]; omega
            obtain ⟨o3, ho3⟩ : ∃ x, out0 ++ tk = x := ⟨_, rfl⟩
            rw [ho3] at HRX3 hlen3 ⊢
            have HO3 := Lib.hid ho3
            clear hti hrx3 hbr3 ho3
            by_cases hks : k < s.size
            · have hz6 : (k : Int) < (s.size : Int) := by omega
              have HNX := Lib.hid (next_r s wr hs2 k hks)
              go_upto_region 24 with (first | (go_at_call 25; (with_reducible refine HNX.out.mono ?_); rintro e w5 ⟨pk, pt, pw, rfl, hb5, hres⟩; have HRES := Lib.hid hres; have HB35 := Lib.hid hb5; clear hb5 hres) | fail)
              obtain ⟨W6, hW6⟩ : ∃ W, w5.alloc (.cells #[.int .i64 pk, .string pt, .int .i64 pw] 52) = W := ⟨_, rfl⟩
              have hbx6 : Bx3 W6 w5.heap.size (.int .i64 pk) (.string pt) (.int .i64 pw) 52 := by rw [← hW6]; exact Bx3.made _ _ _ _ _
              have HBX6 := Lib.hid hbx6
              have hx6 : w5.heap.size < W6.heap.size := by rw [← hW6]; simp
              have HB36 := Lib.hid (show Below wr.heap.size wr W6 by rw [← hW6]; exact HB35.out.alloc HB35.out.size _)
              have hs35 := HB35.out.size
              rw [hW6]
              clear hW6
              obtain ⟨X, hX⟩ : ∃ X, w5.heap.size = X := ⟨_, rfl⟩
              rw [hX] at HBX6 hx6 hs35 ⊢
              clear hX hbx6
              obtain ⟨z0, z1, z2⟩ := HBX6.out.cells
              have HB6 := Lib.hid (HBR3.out.trans (HB36.out.mono hrs3))
              have hrs6 : B ≤ W6.heap.size := by omega
              have hXT := Lib.hid (show (Value.slice pT3 o3.length cT3).ownBlock ≠ some X from fun e => by have := (owns_lt HRX3.out.t e).2; omega)
              have hres := HRES.out
              rcases hres with ⟨hn, rfl⟩ | ⟨pp, hpp, hk1, hk2, hk3⟩
              · have hbad := HP.out.1 _ (rows_bad HROW.out HRW.out (rowD_20 HSKN.out HQ.out (HTI.out.none hks hn)))
                have HBAD := Lib.hid hbad
                clear hn hbad
                go_wp2_with fail
                rw [HBAD.out]
                exact bodyPost_ret (v := .tuple #[.slice none 0 0, .int .i64 ((i : Int) + 1), .int .i64 20]) (by simp [results, Tryd.results10, go_sem]) rfl ⟨rfl, HB1.out.trans (HB6.out.mono hwB)⟩
              · obtain ⟨kk, tx, nn⟩ := pp
                simp only at hk1 hk2 hk3
                have hkk := tokD_kind hpp
                simp only at hkk
                obtain ⟨hti2, hn1, hn2⟩ := HTI.out.step hks hpp
                simp only at hti2 hn1 hn2
                obtain ⟨E, hE⟩ : ∃ x, k + nn = x := ⟨_, rfl⟩
                rw [hE] at hti2 hk3 hn2
                have hEk : k + 1 ≤ E := by omega
                obtain ⟨_, hbE1, hbE2⟩ := skip_r s E hn2
                have HTI2 := Lib.hid hti2
                subst hk1
                subst hk3
                have hptl : pt.toList = tx := by rw [hk2]; simp [bsOf]
                have HPT := Lib.hid (RX.pushT (HRX3.out.keep HB36.out) hrs6 (by omega) pk ((i : Int) + 1) tx)
                rw [← hk2] at HPT
                have HPTL := Lib.hid hptl
                have HBLE := Lib.hid (blanks_r s)
                clear hpp hk2 hti2 hE hptl HRES
                have hnk : ¬ pk < 0 := by omega
                go_upto_region 27 with (first
                  | (at_builtin; refine wpList_appR rfl (.tmp 98) (.tmp 106) rfl rfl rfl (by exact HPT.out _) ?_; rintro v9 w7 ⟨ho7, hb7, hkx⟩; have HO7 := Lib.hid ho7; have HB7 := Lib.hid (HB6.out.trans hb7); have HBX7 := Lib.hid (HBX6.out.keepX (hkx X hx6 hXT.out).1); clear ho7 hb7 hkx HPT)
                  | fail)
                clear z0 z1 z2
                obtain ⟨z0, z1, z2⟩ := HBX7.out.cells
                obtain ⟨ob, hob⟩ : ∃ b, ((pk == 9) && isOpenB tx) = b := ⟨_, rfl⟩
                obtain ⟨sb, hsb⟩ : ∃ b, ((pk == 9) && isShutB tx) = b := ⟨_, rfl⟩
                have HOB := Lib.hid hob
                have HSB := Lib.hid hsb
                clear hob hsb
                go_cut [125] from 108 to 126 (fun b wx => b = .bool ob ∧ w7 = wx)
                case first =>
                  cases hk9' : (pk == 9) with
                  | false =>
                    have hv : ob = false := by rw [← HOB.out, hk9']; rfl
                    subst hv
                    go_wp2_with fail
                    go_meet
                    exact ⟨rfl, rfl⟩
                  | true =>
                    have hv : ob = ((pt.toList == [40]) || (pt.toList == [91]) || (pt.toList == [123])) := by rw [← HOB.out, hk9', HPTL.out]; exact open_eq tx
                    have HV := Lib.hid hv
                    clear hv
                    cases c1 : (pt.toList == [40]) with
                    | true =>
                      go_wp2_with fail
                      go_meet
                      exact ⟨vb_eq (by rw [HV.out, c1]; rfl), rfl⟩
                    | false =>
                      cases c2 : (pt.toList == [91]) with
                      | true =>
                        go_wp2_with fail
                        go_meet
                        exact ⟨vb_eq (by rw [HV.out, c1, c2]; rfl), rfl⟩
                      | false =>
                        go_wp2_with fail
                        go_meet
                        exact ⟨vb_eq (by rw [HV.out, c1, c2]; rfl), rfl⟩
                case rest =>
                obtain ⟨rfl, rfl⟩ := hcut
                go_upto_if 125 with fail
                have w3x : IntKind.i64.wrap (dk + 1) = dk + 1 := i64_in (by omega) (by omega)
                obtain ⟨d1, hd1⟩ : ∃ x, (if ob = true then dk + 1 else dk) = x := ⟨_, rfl⟩
                have hd1b : 0 ≤ d1 ∧ d1 ≤ dk + 1 := by rw [← hd1]; split <;> omega
                have HD1 := Lib.hid hd1
                clear hd1
                go_cut [7] from 125 to 129 (fun a wx => a = .int .i64 d1 ∧ w7 = wx)
                case first =>
                  cases ob with
                  | true =>
                    have hv := HD1.out
                    rw [if_pos rfl] at hv
                    clear hd1b
                    subst hv
                    go_wp2_with fail
                    go_meet
                    exact ⟨rfl, rfl⟩
                  | false =>
                    have hv := HD1.out
                    rw [if_neg (by decide)] at hv
                    clear hd1b
                    subst hv
                    go_wp2_with fail
                    go_meet
                    exact ⟨rfl, rfl⟩
                case rest =>
                obtain ⟨rfl, rfl⟩ := hcut
                clear w3x
                obtain ⟨hd10, hd19⟩ := hd1b
                go_upto_region 29 with fail
                obtain ⟨fb, hfb⟩ : ∃ b, (sb && decide (0 < d1)) = b := ⟨_, rfl⟩
                have HFB := Lib.hid hfb
                clear hfb
                go_cut [149] from 128 to 150 (fun b wx => b = .bool fb ∧ w7 = wx)
                case first =>
                  cases hk9' : (pk == 9) with
                  | false =>
                    have hv : fb = false := by rw [← HFB.out, ← HSB.out, hk9']; rfl
                    subst hv
                    go_wp2_with fail
                    go_meet
                    exact ⟨rfl, rfl⟩
                  | true =>
                    have hv : fb = (((pt.toList == [41]) || (pt.toList == [93]) || (pt.toList == [125])) && decide (0 < d1)) := by rw [← HFB.out, ← HSB.out, hk9', HPTL.out, shut_eq tx]
                    have HV := Lib.hid hv
                    clear hv
                    by_cases hdp : 0 < d1
                    · have hdz : d1 > 0 := hdp
                      cases c1 : (pt.toList == [41]) with
                      | true =>
                        go_wp2_with fail
                        go_meet
                        exact ⟨vb_eq (by rw [HV.out, c1]; simp [hdp]), rfl⟩
                      | false =>
                        cases c2 : (pt.toList == [93]) with
                        | true =>
                          go_wp2_with fail
                          go_meet
                          exact ⟨vb_eq (by rw [HV.out, c1, c2]; simp [hdp]), rfl⟩
                        | false =>
                          cases c3 : (pt.toList == [125]) with
                          | true =>
                            go_wp2_with fail
                            go_meet
                            exact ⟨vb_eq (by rw [HV.out, c1, c2, c3]; simp [hdp]), rfl⟩
                          | false =>
                            go_wp2_with fail
                            go_meet
                            exact ⟨vb_eq (by rw [HV.out, c1, c2, c3]; simp), rfl⟩
                    · have hdz : ¬ d1 > 0 := hdp
                      cases c1 : (pt.toList == [41]) with
                      | true =>
                        go_wp2_with fail
                        go_meet
                        exact ⟨vb_eq (by rw [HV.out]; simp [hdp]), rfl⟩
                      | false =>
                        cases c2 : (pt.toList == [93]) with
                        | true =>
                          go_wp2_with fail
                          go_meet
                          exact ⟨vb_eq (by rw [HV.out]; simp [hdp]), rfl⟩
                        | false =>
                          cases c3 : (pt.toList == [125]) with
                          | true =>
                            go_wp2_with fail
                            go_meet
                            exact ⟨vb_eq (by rw [HV.out]; simp [hdp]), rfl⟩
                          | false =>
                            go_wp2_with fail
                            go_meet
                            exact ⟨vb_eq (by rw [HV.out]; simp [hdp]), rfl⟩
                case rest =>
                obtain ⟨rfl, rfl⟩ := hcut
                go_upto_if 149 with fail
                obtain ⟨d2, hd2⟩ : ∃ x, (if fb = true then d1 - 1 else d1) = x := ⟨_, rfl⟩
                have hdep : depD dk pk tx = d2 := by
                  rw [← hd2, ← HFB.out, ← HD1.out]
                  exact dep_eq hdk0 HOB.out HSB.out
                have hd2b : 0 ≤ d2 ∧ d2 ≤ dk + 1 := by
                  have h := depD_lo (k := pk) (t := tx) hdk0
                  rw [hdep] at h
                  exact h
                have HD2 := Lib.hid hd2
                have hti3 := HTI2.out
                rw [hdep] at hti3
                have HTI3 := Lib.hid hti3
                clear hd2 hdep hti3
                go_cut [7] from 149 to 152 (fun a wx => a = .int .i64 d2 ∧ w7 = wx)
                case first =>
                  have hv := HD2.out
                  cases fb with
                  | true =>
                    rw [if_pos rfl] at hv
                    have hdp : 0 < d1 := by
                      have h := HFB.out
                      rw [Bool.and_eq_true, decide_eq_true_eq] at h
                      exact h.2
                    have w3x : IntKind.i64.wrap (d1 - 1) = d2 := by rw [hv]; exact i64_in (by omega) (by omega)
                    clear hv
                    go_wp2_with fail
                    go_meet
                    exact ⟨rfl, rfl⟩
                  | false =>
                    rw [if_neg (by decide)] at hv
                    subst hv
                    go_wp2_with fail
                    go_meet
                    exact ⟨rfl, rfl⟩
                case rest =>
                obtain ⟨rfl, rfl⟩ := hcut
                go_wp2_with (first | (go_at_call 24; (with_reducible refine (HBLE.out _ hs2 E hn2).mono ?_); rintro e w8 ⟨rfl, hw8⟩; subst hw8) | fail)
                obtain ⟨k2, hk2⟩ : ∃ x, blE s E = x := ⟨_, rfl⟩
                rw [hk2] at HTI3 hbE1 hbE2 ⊢
                clear hk2
                go_roundw
                case rel => exact ⟨k2, d2, tk ++ [⟨pk, (i : Int) + 1, tx⟩], rfl, rfl, hbE1, by rw [List.length_append, List.length_singleton]; omega, hd2b.1, by omega, HTI3.out, by rw [← List.append_assoc, HO3.out]; exact HO7.out, HB7.out⟩
                case measure => simp [intOf]; omega
            · have hz6 : ¬ (k : Int) < (s.size : Int) := by omega
              have hnx := rows_step HROW.out HRW.out (rowD_go HSKN.out HQ.out (HTI.out.done (by omega)))
              simp only at hnx
              have hoe : out ++ (q.1 ++ tk ++ endD ((i : Int) + 1) dk) = o3 ++ endD ((i : Int) + 1) dk := by rw [← HO3.out, ← HOUT0.out]; simp only [List.append_assoc]
              rw [hoe] at hnx
              have HNX := Lib.hid hnx
              clear hnx hoe
              by_cases hdk : dk = 0
              · have hdb : (dk == 0) = true := by simp [hdk]
                have he : endD ((i : Int) + 1) dk = [⟨1, (i : Int) + 1, []⟩] := by unfold endD; rw [if_pos hdk]
                rw [he] at HNX
                have HPT := Lib.hid (RX.pushT HRX3.out hrs3 (by omega) 1 ((i : Int) + 1) [])
                clear he hdk
                go_wp2_with (first
                  | (at_builtin; refine wpList_appR rfl (.tmp 158) (.tmp 162) rfl rfl rfl (by exact HPT.out _) ?_; rintro v9 w7 ⟨ho7, hb7, _⟩; have HO7 := Lib.hid ho7; have HB7 := Lib.hid (HBR3.out.trans hb7); clear ho7 hb7 HPT)
                  | fail)
                go_roundw
                case rel => exact ⟨i + 1, dk, q.2, _, rfl, by go_num, hlt, HNX.out, HO7.out, HB7.out⟩
                case measure => simp [intOf]; omega
              · have hdb : (dk == 0) = false := by simpa using hdk
                have he : endD ((i : Int) + 1) dk = [] := by unfold endD; rw [if_neg hdk]
                rw [he, List.append_nil] at HNX
                clear he hdk
                go_wp2_with fail
                go_roundw
                case rel => exact ⟨i + 1, dk, q.2, _, rfl, by go_num, hlt, HNX.out, HRX3.out, HBR3.out⟩
                case measure => simp [intOf]; omega
      · obtain rfl : R.length = i := by omega
        have hz1 : ¬ (R.length : Int) < (R.length : Int) := by omega
        have hrw := HRW.out
        rw [List.take_of_length_le (Nat.le_refl _)] at hrw
        have hend := HP.out.2 _ _ _ hrw
        have HEND := Lib.hid hend
        obtain ⟨gO, cO, hvO, hcO, hcO2⟩ := HRX.out.top
        obtain ⟨pT, cT, hvT⟩ := owns_form HRX.out.t
        have hrl : r0.length + 1 + out.length ≤ 80001 := by simp only [List.length_cons] at hsum; omega
        subst hvO
        subst hvT
        obtain ⟨wB, hwB'⟩ : ∃ wB : World, wB = wr := ⟨_, rfl⟩
        rw [← hwB'] at HRX HBR hrs
        obtain ⟨n, hn⟩ : ∃ x, R.length = x := ⟨_, rfl⟩
        have hRX0 := HRX.out
        have hBR0 := HBR.out
        rw [hwB'] at hRX0 hBR0
        have HRX0' := Lib.hid hRX0
        have HBR0' := Lib.hid hBR0
        clear hwB' hrw hend hcO hn w1x hRX0 hBR0
        go_wp2_with fail
        go_loopw [8, 13] (fun s8 s13 wr => ∃ k : Nat, s13 = .int .i64 k ∧ 1 ≤ k ∧ k ≤ r0.length + 1 ∧ RX wr B (.slice (some ⟨gO, 0, none⟩) (r0.length + 1) cO) s8 (x0 :: r0) (out ++ outsD (k - 1) (R.length : Int)) ∧ Below B w1 wr) (fun s8 s13 wr => r0.length + 1 - (intOf s13).toNat)
        case atStart => exact ⟨1, by go_num, Nat.le_refl _, by omega, by simp only [Nat.sub_self, outsD, List.replicate_zero, List.append_nil]; exact HRX0'.out, HBR0'.out⟩
        case round =>
          obtain ⟨k, rfl, hk1, hk2, hrx2, hbr2⟩ := hrel
          have HRX2 := Lib.hid hrx2
          have HBR2 := Lib.hid hbr2
          have hrs2 : B ≤ wr.heap.size := by have := hbr2.size; omega
          obtain ⟨pT2, cT2, hvT2⟩ := owns_form hrx2.t
          subst hvT2
          have w2x : IntKind.i64.wrap ((k : Int) + 1) = (k : Int) + 1 := i64_in (by omega) (by omega)
          have hol2 : (out ++ outsD (k - 1) (R.length : Int)).length ≤ 200000 := by simp only [List.length_append, outsD, List.length_replicate]; omega
          obtain ⟨o2, ho2⟩ : ∃ x, out ++ outsD (k - 1) (R.length : Int) = x := ⟨_, rfl⟩
          rw [ho2] at HRX2 hol2 ⊢
          have HO2 := Lib.hid ho2
          clear hrx2 hbr2 ho2
          by_cases hkl : k < r0.length + 1
          · have hz6 : (k : Int) < (r0.length : Int) + 1 := by omega
            have HPT := Lib.hid (RX.pushT HRX2.out hrs2 (by omega) 3 (R.length : Int) [])
            go_wp2_with (first
              | (at_builtin; refine wpList_appR rfl (.tmp 170) (.tmp 174) rfl rfl rfl (by exact HPT.out _) ?_; rintro v9 w7 ⟨ho7, hb7, _⟩; have HO7 := Lib.hid ho7; have HB7 := Lib.hid (HBR2.out.trans hb7); clear ho7 hb7 HPT)
              | fail)
            go_roundw
            case rel => exact ⟨k + 1, by go_num, by omega, by omega, by rw [outs_more out hk1, HO2.out]; exact HO7.out, HB7.out⟩
            case measure => simp [intOf]; omega
          · have hz6 : ¬ (k : Int) < (r0.length : Int) + 1 := by omega
            have hfin : LR = .ok (o2 ++ [⟨0, (R.length : Int), []⟩]) := by
              rw [HEND.out, ← HO2.out]
              congr 4
              simp only [List.length_cons]
              omega
            have HFIN := Lib.hid hfin
            have HPT := Lib.hid (RX.pushT HRX2.out hrs2 (by omega) 0 (R.length : Int) [])
            clear hfin w2x
            go_wp2_with (first
              | (at_builtin; refine wpList_appR rfl (.tmp 176) (.tmp 180) rfl rfl rfl (by exact HPT.out _) ?_; rintro v9 w7 ⟨ho7, hb7, _⟩; have HO7 := Lib.hid ho7; have HB7 := Lib.hid (HBR2.out.trans hb7); clear ho7 hb7 HPT)
              | fail)
            rw [HFIN.out]
            exact bodyPost_ret (v := .tuple #[v9, .int .i64 0, .int .i64 0]) (by simp [results, Tryd.results10, go_sem]) rfl ⟨v9, rfl, World.ownsRow.mono HO7.out.t hwB, HB1.out.trans (HB7.out.mono hwB)⟩
end Go.Proofs.YtcjomeghcihecaaDoor
