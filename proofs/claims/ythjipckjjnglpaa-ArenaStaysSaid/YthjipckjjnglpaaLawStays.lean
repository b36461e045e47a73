/- The law of ArenaStays, walked. -/
import Derived.Test.YthjipckjjnglpaaStaysStep
import Derived.Test.YthjipckjjnglpaaSame13
import Derived.Test.YthjipckjjnglpaaSameInts
import Derived.Test.YthjipckjjnglpaaKnown13
import Derived.Test.YthjipckjjnglpaaLawObjects
import Derived.Test.YthjipckjjnglpaaLawNew
import Derived.Deep.RegionHeld3
import Derived.Deep.DeepCutAuto
namespace Go.Proofs.Ythjipckjjnglpaa
open Go.ChangeShapes Go.WideShapes Go.ChangeAt Go.RowKit
set_option linter.unusedVariables false
set_option linter.unusedSimpArgs false
def InI (k : Int) : Prop := -9223372036854775808 ≤ k ∧ k ≤ 9223372036854775807
/-- One step, as its cells read. -/
def StepAt (w : World) (b off i : Nat) (st : Bool) (k t r x : Int) : Prop :=
  w.cell? ⟨b, off + i * 5, none⟩ = some (.bool st) ∧ w.cell? ⟨b, off + i * 5 + 1, none⟩ = some (.int .i64 k) ∧ w.cell? ⟨b, off + i * 5 + 2, none⟩ = some (.int .i64 t) ∧
    w.cell? ⟨b, off + i * 5 + 3, none⟩ = some (.int .i64 r) ∧ w.cell? ⟨b, off + i * 5 + 4, none⟩ = some (.int .u64 x) ∧ InI k ∧ InI t ∧ InI r ∧ (Lit.int .u64 x).wf = true
def Steps (w : World) (p : Option Addr) (len : Nat) : Prop :=
  len ≤ 9223372036854775807 ∧ ∀ i, i < len → ∃ b off, p = some ⟨b, off, none⟩ ∧ ∃ st k t r x, StepAt w b off i st k t r x
theorem Steps.keep {w w' : World} {p : Option Addr} {len : Nat} (h : Steps w p len) (hb : Below w.heap.size w w') : Steps w' p len := by
  refine ⟨h.1, fun i hi => ?_⟩
  obtain ⟨b, off, hp, st, k, t, r, x, h0, h1, h2, h3, h4, h5⟩ := h.2 i hi
  exact ⟨b, off, hp, st, k, t, r, x, below_cell hb h0, below_cell hb h1, below_cell hb h2, below_cell hb h3, below_cell hb h4, h5⟩
/-- A list of addresses in a row of its own, not below B0. -/
def RiK (B0 : Nat) (w : World) (v : Value) (l : List Nat) : Prop :=
  (v = .slice none 0 0 ∧ l = []) ∨ ∃ g0 cap, v = .slice (some ⟨g0, 0, none⟩) l.length cap ∧ l.length ≤ cap ∧ B0 ≤ g0 ∧ g0 < w.heap.size ∧ ∀ i x, l[i]? = some x → w.cell? ⟨g0, i, none⟩ = some (.int .i64 (x : Nat))
theorem rik_own {w : World} {B : Nat} {u : Value} {l : List Nat} (h : w.ownsRow B 3 1 u l.length (natVals l)) : RiK B w u l := by
  have h0 := h
  rcases h.2 with ⟨rfl, h2⟩ | ⟨g, cap, cur, rfl, hg, r1, r2, r3, r4, r5⟩
  · exact .inl ⟨rfl, List.length_eq_zero_iff.1 h2⟩
  · refine .inr ⟨g, cap, rfl, r2, hg, (Array.getElem?_eq_some_iff.1 r1).1, fun i x hx => ?_⟩
    have hi : i < l.length := by
      rw [List.getElem?_eq_some_iff] at hx
      exact hx.1
    rw [h0.cellAt i (by omega)]
    simp [natVals, hx]
theorem RiK.form {B0 : Nat} {w : World} {v : Value} {l : List Nat} (h : RiK B0 w v l) : ∃ p c, v = .slice p l.length c := by
  rcases h with ⟨rfl, rfl⟩ | ⟨g, c, rfl, _⟩
  · exact ⟨none, 0, rfl⟩
  · exact ⟨_, c, rfl⟩
theorem RiK.keeps {B0 B g : Nat} {w w' : World} {v : Value} {l : List Nat} (h : RiK B0 w v l) (hk : Keeps B g w w') (h1 : B < B0) (h2 : g < B0) (hm : l.length ≤ 1048576) : Ri w' v l := by
  rcases h with h | ⟨g0, c, rfl, h3, h4, h5, h6⟩
  · exact .inl h
  · refine .inr ⟨g0, c, rfl, by omega, fun i x hx => ?_⟩
    rw [← h6 i x hx]
    exact World.cell?_of_block (a := ⟨g0, i, none⟩) (hk.block g0 h5 (by omega) (by omega))
theorem Keeps.cell {B g : Nat} {w w' : World} (hk : Keeps B g w w') {q o : Nat} {v : Value} (h : w.cell? ⟨q, o, none⟩ = some v) (h0 : q < w.heap.size) (h1 : q ≠ B) (h2 : q ≠ g) : w'.cell? ⟨q, o, none⟩ = some v := by
  rw [← h]; exact World.cell?_of_block (a := ⟨q, o, none⟩) (hk.block q h0 h1 h2)
theorem words_of (x : Int) : ∃ N : Nat, wrap64 (2 + wrap64 ((IntKind.u64.wrap x).tmod 300)) = (N : Int) ∧ 2 ≤ N ∧ N ≤ 301 := by
  have h0 : 0 ≤ IntKind.u64.wrap x := by rw [u64w]; omega
  rw [Int.tmod_eq_emod_of_nonneg h0]
  refine ⟨(2 + (IntKind.u64.wrap x) % 300).toNat, ?_, by omega, by omega⟩
  rw [i64w, i64w]; omega
theorem idx_of (y : Int) (n : Nat) (h0 : 0 ≤ y) (hn : 0 < n) (hm : n ≤ 1048576) : ∃ i : Nat, i < n ∧ wrap64 (y.tmod (n : Int)) = (i : Int) := by
  rw [Int.tmod_eq_emod_of_nonneg h0]
  have h1 := Int.emod_nonneg y (by omega : (n : Int) ≠ 0)
  have h2 := Int.emod_lt_of_pos y (by omega : (0 : Int) < n)
  refine ⟨(y % n).toNat, by omega, ?_⟩
  rw [i64w]; omega
theorem idx_of2 (y : Int) (n : Nat) (h0 : 0 ≤ y) (hn : 0 < n) (hm : n ≤ 1048576) : ∃ i : Nat, i < n ∧ wrap64 (y % (n : Int)) = (i : Int) := by
  have h1 := Int.emod_nonneg y (by omega : (n : Int) ≠ 0)
  have h2 := Int.emod_lt_of_pos y (by omega : (0 : Int) < n)
  refine ⟨(y % n).toNat, by omega, ?_⟩
  rw [i64w]; omega
theorem u64_nn (x : Int) : 0 ≤ IntKind.u64.wrap x := by rw [u64w]; omega
theorem right4 {l : List Nat} {b : Nat} (hb : b ∈ l) (h1 : 1 ≤ b ∧ b < 1048576) : rightW l (4 * (b : Int)) = true := by
  have hk : kindOf (4 * (b : Int)) = 0 := by
    unfold kindOf
    rw [if_pos (by omega), if_pos (by omega)]
  unfold rightW
  rw [hk, show (4 * (b : Int) / 4).toNat = b by omega]
  simp [hb]
theorem right_two (l : List Nat) : rightW l 2 = true := by
  unfold rightW
  rw [show kindOf 2 = 2 by rfl]
  rfl
theorem right_other {l : List Nat} {x : Int} (h : kindOf x ≠ 0) : kindOf x = 3 ∨ rightW l x = true := by
  by_cases h3 : kindOf x = 3
  · exact .inl h3
  · right
    unfold rightW
    simp [h, h3]
theorem wf_u64 {x : Int} (h : 0 ≤ x ∧ x ≤ 18446744073709551615) : (Lit.int .u64 x).wf = true := by
  simp [Lit.wf, IntKind.min, IntKind.max, IntKind.signed, IntKind.bits]; omega
theorem form_row {w : World} {g n : Nat} (h : w.rowIs g 33 n (fun _ => .int .u64 0)) : Row w g n n (fun i => (List.replicate n (0 : Int)).getD i 0) := by
  refine ⟨_, h, fun i hi => ?_⟩
  simp [List.getD_eq_getElem?_getD, hi]
set_option maxRecDepth 100000 in
set_option maxHeartbeats 8000000 in
theorem lawStays (words : Int) (p : Option Addr) (len cap : Nat) (w : World) (w0 : (Lit.int .i64 words).wf = true) (hs : Steps w p len) :
    Calls Try.prog 6 #[.int .i64 words, .slice p len cap] w fun e w' => e = .returned (.bool true) ∧ Below w.heap.size w w' := by
  have HS := Lib.hid hs
  have hlen := hs.1
  clear hs
  go_enter Try.func6, Try.ntmps6
  go_wp2_with fail
  refine (known _).mono ?_
  rintro e w1 ⟨rfl, hb1⟩
  obtain ⟨N, hN, hN1, hN2⟩ := words_of words
  have HN := Lib.hid hN
  clear hN
  go_wp2_with fail
  rw [HN.out]
  refine (new_good N ⟨hN1, by omega⟩ _).mono ?_
  rintro e w2 ⟨g, rfl, hg, hrow, hb2⟩
  have hB2 := hb1.trans (hb2.mono hb1.size)
  have HB2 := Lib.hid hB2
  have HROW := Lib.hid (form_row hrow)
  have HG := Lib.hid (Nat.le_trans hb1.size hg)
  clear hb1 hb2 hrow hg HN hB2
  go_wp2_with fail
  generalize hw3 : World.alloc w2 _ = w3
  have hS0 : SS w w2.heap.size g N (List.replicate N 0) 1 [] w3 := by
    have hlt := HROW.out.lt
    refine ⟨Form.new N ⟨hN1, by omega⟩, fun i => ?_, List.length_replicate, ⟨?_, ?_, ?_, ?_, Nat.le_refl _, by omega, by omega⟩, ?_, HB2.out.size, HG.out, ?_⟩
    · simp only [List.getD_eq_getElem?_getD, List.getElem?_replicate]; split <;> simp
    · rw [← hw3]; simp
    · rw [← hw3]; simp
    · rw [← hw3]; simp
    · rw [← hw3]; exact HROW.out.block (Below.heap_alloc _ _ _ hlt)
    · rw [← hw3]; exact HB2.out.alloc HB2.out.size _
    · rw [← hw3]; simp
  have HS0 := Lib.hid hS0
  generalize w2.heap.size = B at *
  clear hw3 HROW HG hS0 HB2
  go_loopw [7] (fun s wr => ∃ (k : Nat) (ws : List Int) (top : Nat) (l : List Nat), s = .int .i64 k ∧ k ≤ 200 ∧ SS w B g N ws top l wr) (fun s _ => 200 - (intOf s).toNat)
  case atStart => exact ⟨0, _, 1, [], by go_num, by omega, HS0.out⟩
  case round =>
    obtain ⟨k, ws, top, l, rfl, hk, hS⟩ := hrel
    by_cases h200 : k < 200
    · by_cases hkl : k < len
      · have hki : (k : Int) < (len : Int) := by omega
        have h200i : (k : Int) < 200 := by omega
        obtain ⟨b, off, rfl, st, kd, t, r, x, hst⟩ := (HS.out.keep (show Below w.heap.size w wr from hS.below)).2 k hkl
        obtain ⟨q0, q1, q2, q3, q4, q5, q6, q7, q8⟩ := hst
        have hb0 := hS.ma.box0
        have hb1 := hS.ma.box1
        have HSS := Lib.hid hS
        clear hS
        have hb0' := fun o => alloc_cell hb0 o
        have hb1' := fun o => alloc_cell hb1 o
        go_wp2_with fail
        generalize hwa : World.alloc wr _ = wa
        have hq0 : wa.cell? ⟨wr.heap.size, 0, none⟩ = some (.bool st) := by rw [← hwa]; simp
        have hq1 : wa.cell? ⟨wr.heap.size, 1, none⟩ = some (.int .i64 kd) := by rw [← hwa]; simp
        have hq2 : wa.cell? ⟨wr.heap.size, 2, none⟩ = some (.int .i64 t) := by rw [← hwa]; simp
        have hq3 : wa.cell? ⟨wr.heap.size, 3, none⟩ = some (.int .i64 r) := by rw [← hwa]; simp
        have hq4 : wa.cell? ⟨wr.heap.size, 4, none⟩ = some (.int .u64 x) := by rw [← hwa]; simp
        have hSa : SS w B g N ws top l wa := by rw [← hwa]; exact HSS.out.keep ((Below.refl _ _).alloc (Nat.le_refl _) _)
        have hia : wr.heap.size < wa.heap.size := by rw [← hwa]; simp
        have hRB : w.heap.size ≤ wr.heap.size ∧ B < wr.heap.size ∧ g < wr.heap.size := ⟨HSS.out.below.size, HSS.out.ltB, HSS.out.ma.row.lt⟩
        have HRB := Lib.hid hRB
        generalize wr.heap.size = I at *
        clear hwa hb0 hb1 hb0' hb1' q0 q1 q2 q3 q4 hRB
        have HSa := Lib.hid hSa
        clear hSa HSS
        refine (copy13_any _ ws top wa HSa.out.rd).mono ?_
        rintro e wb ⟨vb, rfl, hown, hbb⟩
        obtain ⟨gb, cb, rfl, hgb, hcb, hrowb⟩ := row_own hown (by have := HSa.out.form.two; omega)
        have hgb2 := HSa.out.ltB
        have hgb3 := HSa.out.ma.row.lt
        have HBb := Lib.hid hbb
        have HRb := Lib.hid hrowb
        have HGB := Lib.hid (show B < gb ∧ g < gb ∧ gb < wb.heap.size from ⟨by omega, by omega, hrowb.lt⟩)
        have HCB := Lib.hid hcb
        have HSb := Lib.hid (HSa.out.keep hbb)
        have hq0b := fun o => alloc_cell (below_cell hbb hq0) o
        have hq1b := fun o => alloc_cell (below_cell hbb hq1) o
        have hq2b := fun o => alloc_cell (below_cell hbb hq2) o
        have hq3b := fun o => alloc_cell (below_cell hbb hq3) o
        have hq4b := fun o => alloc_cell (below_cell hbb hq4) o
        have hb0 := fun o => alloc_cell HSb.out.ma.box0 o
        have hb1 := fun o => alloc_cell HSb.out.ma.box1 o
        clear hown hbb hq0 hq1 hq2 hq3 hq4 HSa hgb hgb2 hgb3 hrowb hcb
        go_wp2_with fail
        generalize hwc : World.alloc wb _ = wc
        have hq0 : wc.cell? ⟨I, 0, none⟩ = some (.bool st) := by rw [← hwc]; exact hq0b _
        have hq1 : wc.cell? ⟨I, 1, none⟩ = some (.int .i64 kd) := by rw [← hwc]; exact hq1b _
        have hq2 : wc.cell? ⟨I, 2, none⟩ = some (.int .i64 t) := by rw [← hwc]; exact hq2b _
        have hq3 : wc.cell? ⟨I, 3, none⟩ = some (.int .i64 r) := by rw [← hwc]; exact hq3b _
        have hq4 : wc.cell? ⟨I, 4, none⟩ = some (.int .u64 x) := by rw [← hwc]; exact hq4b _
        have hy0 : wc.cell? ⟨wb.heap.size, 0, none⟩ = some (.slice (some ⟨gb, 0, none⟩) ws.length cb) := by rw [← hwc]; simp
        have hy1 : wc.cell? ⟨wb.heap.size, 1, none⟩ = some (.int .i64 top) := by rw [← hwc]; simp
        have HSc := Lib.hid (show SS w B g N ws top l wc by rw [← hwc]; exact HSb.out.keep ((Below.refl _ _).alloc (Nat.le_refl _) _))
        have HRc := Lib.hid (show Row wc gb ws.length cb (fun i => ws.getD i 0) by rw [← hwc]; exact HRb.out.block (Below.heap_alloc _ _ _ HRb.out.lt))
        have HGC := Lib.hid (show B < gb ∧ g < gb ∧ gb < wc.heap.size by have := HGB.out; rw [← hwc]; simp; omega)
        have HJ := Lib.hid (show B < wb.heap.size ∧ g < wb.heap.size ∧ I < wb.heap.size ∧ wb.heap.size < wc.heap.size ∧ I < wc.heap.size ∧ w.heap.size ≤ wb.heap.size by
          have h1 := HSb.out.ltB
          have h2 := HSb.out.ma.row.lt
          have h3 := HBb.out.size
          have h4 := HSb.out.below.size
          rw [← hwc]; simp; omega)
        generalize wb.heap.size = J at *
        clear hwc hq0b hq1b hq2b hq3b hq4b hb0 hb1 HRb HSb HBb hia HGB
        refine (objects _ ws top wc HSc.out.rd HSc.out.fit (by have := HSc.out.form.le; have := HSc.out.form.most; omega)).mono ?_
        rintro e wd ⟨hbd, ub, rfl, hub⟩
        rw [HSc.out.form.ok.2] at hub
        have HU := Lib.hid (rik_own hub)
        have HWC := Lib.hid (show B < wc.heap.size ∧ g < wc.heap.size from ⟨HSc.out.ltB, HSc.out.ma.row.lt⟩)
        have hll : l.length ≤ 1048576 := by
          have h1 := scanF_len _ _ _ _ HSc.out.form.scan
          have h2 := HSc.out.form.len
          have h3 := HSc.out.form.le
          have h4 := HSc.out.form.most
          omega
        obtain ⟨pu, cu, rfl⟩ := HU.out.form
        have hp0 := below_cell hbd hq0
        have hp1 := below_cell hbd hq1
        have hp2 := below_cell hbd hq2
        have hp3 := below_cell hbd hq3
        have hp4 := below_cell hbd hq4
        have hz0 := below_cell hbd hy0
        have hz1 := below_cell hbd hy1
        have HSd := Lib.hid (HSc.out.keep hbd)
        have HRd := Lib.hid (HRc.out.block (hbd.block _ HRc.out.lt))
        have HGD := Lib.hid (show B < gb ∧ g < gb ∧ gb < wd.heap.size from ⟨HGC.out.1, HGC.out.2.1, Nat.lt_of_lt_of_le HGC.out.2.2 hbd.size⟩)
        have HJd := Lib.hid (show J < wd.heap.size ∧ I < wd.heap.size by have := hbd.size; have := HJ.out; omega)
        clear hub hbd hq0 hq1 hq2 hq3 hq4 hy0 hy1 HSc HRc HGC
        go_upto_if 47 with (fail)
        go_cut [11, 12, 13] (fun e a x wx => ∃ er, e = .int .i64 er ∧ StepPost w B g N ws top l wd er wx)
        case first =>
          clear hz0 hz1
          have hll' : l.length ≤ 9223372036854775807 := by omega
          cases st with
          | false =>
            go_wp2_with fail
            refine (alloc_ss HSd.out kd t r).mono ?_
            rintro e wx ⟨a, er, rfl, hp⟩
            go_wp2_with fail
            go_meet
            case rel => exact ⟨er, rfl, hp⟩
          | true =>
            by_cases hl0 : 0 < l.length
            · have hl0' : (0 : Int) < (l.length : Int) := by omega
              obtain ⟨i0, hi0, hidx⟩ := idx_of (IntKind.u64.wrap t) l.length (u64_nn t) hl0 hll
              obtain ⟨g0, rfl, hcells⟩ : ∃ g0, pu = some ⟨g0, 0, none⟩ ∧ ∀ i x, l[i]? = some x → wd.cell? ⟨g0, i, none⟩ = some (.int .i64 (x : Nat)) := by
                rcases HU.out with ⟨e, _⟩ | ⟨g0, cap, e, _, _, _, h6⟩
                · simp only [Value.slice.injEq] at e; omega
                · simp only [Value.slice.injEq] at e; exact ⟨g0, e.1, h6⟩
              have HC := Lib.hid hcells
              clear hcells
              have hi0' : (i0 : Int) < (l.length : Int) := by omega
              have hbi := HC.out i0 l[i0] (List.getElem?_eq_getElem hi0)
              have hmem : l[i0] ∈ l := List.getElem_mem hi0
              have HM := Lib.hid hmem
              generalize l[i0] = b0 at hbi HM
              clear hmem
              go_wp2_with fail
              clear hidx
              have hx := wfu q8
              refine (kind_ref x q8 _).mono ?_
              rintro e w' ⟨rfl, rfl⟩
              by_cases hk0 : kindOf x = 0
              · obtain ⟨i1, hi1, hidx⟩ := idx_of2 (x / 4) l.length (by omega) hl0 hll
                have hi1' : (i1 : Int) < (l.length : Int) := by omega
                have hbi1 := HC.out i1 l[i1] (List.getElem?_eq_getElem hi1)
                have hmem : l[i1] ∈ l := List.getElem_mem hi1
                generalize l[i1] = b1 at hbi1 hmem
                have hb1 : 1 ≤ b1 ∧ b1 < 1048576 := by
                  have h1 := scan_lt HSd.out.form.scan b1 hmem
                  have h2 := okAt_sz (scan_mem_ok HSd.out.form.scan b1 hmem)
                  have h3 := HSd.out.form.len
                  have h4 := HSd.out.form.le
                  have h5 := HSd.out.form.most
                  omega
                have HR := Lib.hid (right4 hmem hb1)
                clear hmem
                go_wp2_with fail
                refine (set_ss HSd.out (b0 : Nat) r (4 * (b1 : Int)) (wf_u64 (by omega)) q7 (.inl ⟨b0, HM.out, rfl⟩) (.inr HR.out)).mono ?_
                rintro e wx ⟨er, rfl, hp⟩
                go_wp2_with fail
                go_meet
                case rel => exact ⟨er, rfl, hp⟩
              · have hk1 : (kindOf x == 0) = false := by simpa using hk0
                go_wp2_with fail
                refine (kind_ref x q8 _).mono ?_
                rintro e w' ⟨rfl, rfl⟩
                go_wp2_with fail
                refine (set_ss HSd.out (b0 : Nat) r x q8 q7 (.inl ⟨b0, HM.out, rfl⟩) (right_other hk0)).mono ?_
                rintro e wx ⟨er, rfl, hp⟩
                go_wp2_with fail
                go_meet
                case rel => exact ⟨er, rfl, hp⟩
            · have hl0' : ¬ (0 : Int) < (l.length : Int) := by omega
              have hx := wfu q8
              have hle : l = [] := List.length_eq_zero_iff.1 (by omega)
              have hz : there (ws.take top) ((0 : Nat) : Int) = false := by simp [there]
              have HZ := Lib.hid hz
              clear hle hz
              go_wp2_with fail
              refine (kind_ref x q8 _).mono ?_
              rintro e w' ⟨rfl, rfl⟩
              by_cases hk0 : kindOf x = 0
              · go_wp2_with fail
                refine (kind_ref x q8 _).mono ?_
                rintro e w' ⟨rfl, rfl⟩
                go_wp2_with fail
                refine (set_ss HSd.out 0 r 2 (by decide) q7 (.inr HZ.out) (.inr (right_two l))).mono ?_
                rintro e wx ⟨er, rfl, hp⟩
                go_wp2_with fail
                go_meet
                case rel => exact ⟨er, rfl, hp⟩
              · have hk1 : (kindOf x == 0) = false := by simpa using hk0
                go_wp2_with fail
                refine (kind_ref x q8 _).mono ?_
                rintro e w' ⟨rfl, rfl⟩
                go_wp2_with fail
                refine (set_ss HSd.out 0 r x q8 q7 (.inr HZ.out) (right_other hk0)).mono ?_
                rintro e wx ⟨er, rfl, hp⟩
                go_wp2_with fail
                go_meet
                case rel => exact ⟨er, rfl, hp⟩
        case rest =>
          obtain ⟨er, rfl, h0, h9, ws', top', ext, hsame, htop, hSS, hK⟩ := hcut
          have hz0' := hK.cell hz0 HJd.out.1 (by have := HJ.out; omega) (by have := HJ.out; omega)
          have hz1' := hK.cell hz1 HJd.out.1 (by have := HJ.out; omega) (by have := HJ.out; omega)
          have hrow' : Row _ gb ws.length cb (fun i => ws.getD i 0) := HRd.out.block (hK.block gb HGD.out.2.2 (by have := HGD.out; omega) (by have := HGD.out; omega))
          have hri := HU.out.keeps hK HWC.out.1 HWC.out.2 hll
          have hb0 := hSS.ma.box0
          have hb1 := hSS.ma.box1
          have hlN : ws.length = N := HSd.out.len
          have hN' := hSS.len
          have hle := hSS.form.le
          clear hz0 hz1 hp0 hp1 hp2 hp3 hp4
          rw [hlN] at hz0'
          have HRW := Lib.hid hrow'
          have HRI := Lib.hid hri
          have HSS := Lib.hid hSS
          have HSM := Lib.hid hsame
          clear hrow' hri hSS hsame hK
          have hle2 : top' ≤ N := by omega
          by_cases her : er = 0
          · subst her
            go_wp2_with fail
            have b0x := hb0
            have b1x := hb1
            have z0x := hz0'
            have z1x := hz1'
            have HSX := HSS
            have HRX := HRI
            clear hb0 hb1 hz0' hz1' HSS HRI
            refine (check_any _ ws' top' _ (HSX.out.rd) HSX.out.fit (by omega)).mono ?_
            rintro e wf ⟨rfl, hbf⟩
            rw [show checkE ws' top' = 0 by unfold checkE; rw [HSX.out.form.ok.1]; rfl]
            have f0 := below_cell hbf b0x
            have f1 := below_cell hbf b1x
            have f2 := below_cell hbf z0x
            have f3 := below_cell hbf z1x
            have HSF := Lib.hid (HSX.out.keep hbf)
            have HRF := Lib.hid (HRX.out.keep hbf)
            clear hbf b0x b1x z0x z1x HSX HRX
            have c1 : (top : Int) ≤ (top' : Int) := by omega
            have c2 : (top' : Int) ≤ (N : Int) := by omega
            go_wp2_with fail
            refine (objects _ ws' top' _ HSF.out.rd HSF.out.fit (by omega)).mono ?_
            rintro e wg ⟨hbg, ug, rfl, hug⟩
            rw [HSF.out.form.ok.2] at hug
            have hgm : (l ++ ext).length ≤ 9223372036854775807 := by have := objList_len ws' top'; rw [HSF.out.form.ok.2] at this; exact this
            have hRG := rik_own hug
            have HRG := Lib.hid (HRF.out.keep hbg)
            have HSG := Lib.hid (HSF.out.keep hbg)
            clear hug hbg HSF HRF f0 f1 f2 f3
            have hle3 : l.length ≤ (l ++ ext).length := by rw [List.length_append]; omega
            rcases hRG with ⟨rfl, hnil⟩ | ⟨g5, cap5, rfl, hcap5, _, _, hcells5⟩
            · have e1 : l.length = 0 := by rw [hnil] at hle3; simpa using hle3
              have e2 : (l ++ ext).length = 0 := by rw [hnil]; rfl
              obtain rfl : l = [] := List.length_eq_zero_iff.1 e1
              clear e1 hle3 hgm
              go_wp2_with fail
              refine (sameints _ _ [] _ (.inl ⟨rfl, rfl⟩) HRG.out).mono ?_
              rintro e wh ⟨rfl, q, rfl⟩
              go_wp2_with fail
              go_roundw
              case rel => exact ⟨k + 1, ws', top', [] ++ ext, by go_num, by omega, HSG.out.keep (drewN_below _ _)⟩
              case measure => simp [intOf]; omega
            · have hR5 : Ri wg (.slice (some ⟨g5, 0, none⟩) l.length cap5) l := .inr ⟨g5, cap5, rfl, by omega, fun q y hq => hcells5 q y (by rw [List.getElem?_append_left (by rw [List.getElem?_eq_some_iff] at hq; exact hq.1)]; exact hq)⟩
              have HR5 := Lib.hid hR5
              clear hR5 hcells5
              go_wp2_with fail
              refine (sameints _ _ l _ HR5.out HRG.out).mono ?_
              rintro e wh ⟨rfl, q, rfl⟩
              go_wp2_with fail
              go_roundw
              case rel => exact ⟨k + 1, ws', top', l ++ ext, by go_num, by omega, HSG.out.keep (drewN_below _ _)⟩
              case measure => simp [intOf]; omega
          · have herr := HSM.out her
            obtain ⟨rfl, rfl⟩ := herr
            have hne : (er != 0) = true := by simpa using her
            have HRDX := Lib.hid (show Rd _ (.slice (some ⟨gb, 0, none⟩) N cb) ws' from .inr ⟨gb, 0, cb, by rw [hlN], HCB.out, by omega, fun i hi => by rw [Nat.zero_add]; exact HRW.out.cell HCB.out hi⟩)
            go_wp2_with fail
            refine (same13 _ _ ws' top' _ HSS.out.rd HRDX.out).mono ?_
            rintro e wk ⟨rfl, hbk⟩
            have b0x := below_cell hbk hb0
            have b1x := below_cell hbk hb1
            have z0x := below_cell hbk hz0'
            have z1x := below_cell hbk hz1'
            have HSX := Lib.hid (HSS.out.keep hbk)
            have HRX := Lib.hid (HRI.out.keep hbk)
            clear hbk hb0 hb1 hz0' hz1' HSS HRI
            go_wp2_with fail
            refine (check_any _ ws' top' _ (HSX.out.rd) HSX.out.fit (by omega)).mono ?_
            rintro e wf ⟨rfl, hbf⟩
            rw [show checkE ws' top' = 0 by unfold checkE; rw [HSX.out.form.ok.1]; rfl]
            have f0 := below_cell hbf b0x
            have f1 := below_cell hbf b1x
            have f2 := below_cell hbf z0x
            have f3 := below_cell hbf z1x
            have HSF := Lib.hid (HSX.out.keep hbf)
            have HRF := Lib.hid (HRX.out.keep hbf)
            clear hbf b0x b1x z0x z1x HSX HRX
            have c2 : (top' : Int) ≤ (N : Int) := by omega
            go_wp2_with fail
            refine (objects _ ws' top' _ HSF.out.rd HSF.out.fit (by omega)).mono ?_
            rintro e wg ⟨hbg, ug, rfl, hug⟩
            rw [HSF.out.form.ok.2] at hug
            have hgm : (l ++ ext).length ≤ 9223372036854775807 := by have := objList_len ws' top'; rw [HSF.out.form.ok.2] at this; exact this
            have hRG := rik_own hug
            have HRG := Lib.hid (HRF.out.keep hbg)
            have HSG := Lib.hid (HSF.out.keep hbg)
            clear hug hbg HSF HRF f0 f1 f2 f3
            have hle3 : l.length ≤ (l ++ ext).length := by rw [List.length_append]; omega
            rcases hRG with ⟨rfl, hnil⟩ | ⟨g5, cap5, rfl, hcap5, _, _, hcells5⟩
            · have e1 : l.length = 0 := by rw [hnil] at hle3; simpa using hle3
              have e2 : (l ++ ext).length = 0 := by rw [hnil]; rfl
              obtain rfl : l = [] := List.length_eq_zero_iff.1 e1
              clear e1 hle3 hgm
              go_wp2_with fail
              refine (sameints _ _ [] _ (.inl ⟨rfl, rfl⟩) HRG.out).mono ?_
              rintro e wh ⟨rfl, q, rfl⟩
              go_wp2_with fail
              go_roundw
              case rel => exact ⟨k + 1, ws', top', [] ++ ext, by go_num, by omega, HSG.out.keep (drewN_below _ _)⟩
              case measure => simp [intOf]; omega
            · have hR5 : Ri wg (.slice (some ⟨g5, 0, none⟩) l.length cap5) l := .inr ⟨g5, cap5, rfl, by omega, fun q y hq => hcells5 q y (by rw [List.getElem?_append_left (by rw [List.getElem?_eq_some_iff] at hq; exact hq.1)]; exact hq)⟩
              have HR5 := Lib.hid hR5
              clear hR5 hcells5
              go_wp2_with fail
              refine (sameints _ _ l _ HR5.out HRG.out).mono ?_
              rintro e wh ⟨rfl, q, rfl⟩
              go_wp2_with fail
              go_roundw
              case rel => exact ⟨k + 1, ws', top', l ++ ext, by go_num, by omega, HSG.out.keep (drewN_below _ _)⟩
              case measure => simp [intOf]; omega
      · have hki : ¬ (k : Int) < (len : Int) := by omega
        have HB := Lib.hid hS.below
        clear hS
        go_wp2_with fail
        go_ret
        exact ⟨rfl, HB.out⟩
    · have h200i : ¬ (k : Int) < 200 := by omega
      have HB := Lib.hid hS.below
      clear hS
      by_cases hkl : k < len
      · have hki : (k : Int) < (len : Int) := by omega
        go_wp2_with fail
        go_ret
        exact ⟨rfl, HB.out⟩
      · have hki : ¬ (k : Int) < (len : Int) := by omega
        go_wp2_with fail
        go_ret
        exact ⟨rfl, HB.out⟩
end Go.Proofs.Ythjipckjjnglpaa
