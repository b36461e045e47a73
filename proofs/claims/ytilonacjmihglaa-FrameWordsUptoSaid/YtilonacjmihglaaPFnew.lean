/- Layer 20: New, where there is room. -/
import Derived.Test.YtilonacjmihglaaPFset
import Derived.Test.YtilonacjmihglaaPStaysStep
namespace Go.Proofs.Ytilonacjmihglaa
open Go Go.ChangeShapes Go.WideShapes Go.ChangeAt Go.RowKit
set_option linter.unusedVariables false
set_option linter.unusedSimpArgs false
attribute [local go_sem] Oper.semAt_some
theorem But1.two {g : Nat} {a b : World} (h : But1 g a b) (B : Nat) : But2 B g a b := ⟨h.os, h.tape, h.output, h.size, fun k hk _ h2 => h.block k hk h2⟩
theorem But2.of_below {B g : Nat} {a b : World} (h : Below a.heap.size a b) : But2 B g a b := ⟨h.os, h.tape, h.output, h.size, fun k hk _ _ => h.block k hk⟩
theorem But2.cell {B g : Nat} {w w' : World} (h : But2 B g w w') {q o : Nat} {v : Value} (hv : w.cell? ⟨q, o, none⟩ = some v) (h1 : q ≠ B) (h2 : q ≠ g) : w'.cell? ⟨q, o, none⟩ = some v :=
  (World.cell?_of_block (a := ⟨q, o, none⟩) (h.block q (World.block_lt_of_cell? w _ hv) h1 h2)).trans hv
theorem allocL_len (ws : List Int) (a : Nat) (hd : Int) (T M : Nat) : (allocL ws a hd T M).length = ws.length := by simp [allocL]
theorem pm_alloc {w : World} {B g c tn : Nat} {ws : List Int} (h : PM w B g c tn ws) (k T R : Nat) (h1 : 1 ≤ tn) (hk : 1 ≤ k ∧ k ≤ 255) (hT : T ≤ 1048576) (hR : R ≤ 1048576) (hs : 2 + T + R < 16777216 ∧ tn + (2 + T + R) ≤ ws.length) :
    Calls Try.prog 25 #[.pointer (some ⟨B, 0, none⟩), .int .i64 (k : Int), .int .i64 (T : Int), .int .i64 (R : Int)] w fun e w' => e = .returned (.tuple #[.int .i64 (tn : Int), .int .i64 0]) ∧
      PM w' B g c (tn + (2 + T + R)) (allocL ws tn (headWord k T R) T (T + R)) ∧ But2 B g w w' := by
  have := h.t1
  refine (alloc_good B g ws.length c tn _ k T R w h.ma (by omega) (by omega)).mono ?_
  rintro e w' ⟨rfl, hA⟩
  refine ⟨rfl, ⟨⟨?_, ?_, hA.fr, ?_, ?_, ?_, hA.ne⟩, fit_allocL h.fit (by omega) (by unfold headWord; omega), by rw [allocL_len]; omega⟩, hA.but⟩
  · rw [allocL_len]; exact hA.box0
  · rw [hA.box1]; congr 2
  · rw [allocL_len]
    refine Row.ext hA.row fun i hi => ?_
    rw [getD_allocL _ _ _ _ _ _ (by omega)]
    rw [Int.toNat_natCast, Int.toNat_natCast, show ((T : Int) + (R : Int)).toNat = T + R by omega]
    rfl
  · rw [allocL_len]; exact hA.le
  · rw [allocL_len]; exact h.ma.max
theorem alloc_head {ws : List Int} {a k T R : Nat} (h1 : 1 ≤ a) (hk : 1 ≤ k ∧ k ≤ 255) (hs : 2 + T + R < 16777216 ∧ a + (2 + T + R) ≤ ws.length) :
    headAt ((allocL ws a (headWord k T R) T (T + R)).take (a + (2 + T + R))) a = headWord k T R ∧ there ((allocL ws a (headWord k T R) T (T + R)).take (a + (2 + T + R))) a = true := by
  have hH := head_of k T R ⟨by omega, by omega, by omega, by omega, by omega⟩
  have hl : ((allocL ws a (headWord k T R) T (T + R)).take (a + (2 + T + R))).length = a + (2 + T + R) := by rw [List.length_take, allocL_len]; omega
  have hh : headAt ((allocL ws a (headWord k T R) T (T + R)).take (a + (2 + T + R))) a = headWord k T R := by
    unfold headAt
    rw [hl, if_pos (by omega), getD_take, Int.toNat_natCast, if_pos (by omega), getD_allocL _ _ _ _ _ _ (by omega)]
    unfold fillTo; rw [if_pos rfl]
  refine ⟨hh, ?_⟩
  unfold there
  rw [hh, hl]
  unfold headWord
  rw [hH.1, hH.2.1, hH.2.2]
  simp only [decide_eq_true_eq]
  omega
/-- The words behind New: n registers. -/
def newL0 (ws : List Int) (tn n : Nat) : List Int := ((allocL ws tn (headWord 19 (6 + n) 0) (6 + n) (6 + n + 0)).set (tn + 2 + 2) 1).set (tn + 2 + 4) 1
def newL (ws : List Int) (tn n : Nat) : List Int := clrL (newL0 ws tn n) tn [] n
theorem hasW_nil (k : Nat) : hasW [] k = false := by unfold hasW; simp
/-- Words behind the first hd of an object don't change what lies at its head. -/
theorem set_head {ws : List Int} {a q tn : Nat} (x : Int) (h : a < q) : headAt ((ws.set q x).take tn) a = headAt (ws.take tn) a ∧ there ((ws.set q x).take tn) a = there (ws.take tn) a := by
  have hl : ((ws.set q x).take tn).length = (ws.take tn).length := by rw [List.length_take, List.length_take, List.length_set]
  have hh : headAt ((ws.set q x).take tn) a = headAt (ws.take tn) a := by
    unfold headAt
    rw [hl, getD_take, getD_take, Int.toNat_natCast, getD_set, if_neg (show ¬ (a = q ∧ q < ws.length) by omega)]
  refine ⟨hh, ?_⟩
  unfold there
  rw [hl, hh]
/-- What the rounds of New hold. -/
structure NJ (B g c tn : Nat) (ws : List Int) (a : Nat) (WL : World) (E k : Nat) (A : World) : Prop where
  pm : PM A B g c tn (clrL ws a [] k)
  but : But1 g WL A
theorem NJ.kw {B g c tn : Nat} {ws : List Int} {a : Nat} {WL : World} {E k : Nat} {A A' : World} (h : NJ B g c tn ws a WL E k A) {K : Nat → Prop} (hk : Kw K A A') (hK : ∀ b, b < WL.heap.size → K b) (hB : B < WL.heap.size) (hg : g < WL.heap.size) : NJ B g c tn ws a WL E k A' :=
  ⟨h.pm.of (hk.block _ (hK _ hB) (by have := h.but.size; omega)) (hk.block _ (hK _ hg) (by have := h.but.size; omega)),
   ⟨hk.os.trans h.but.os, hk.tape.trans h.but.tape, hk.output.trans h.but.output, Nat.le_trans h.but.size hk.size, fun b hb hn => (hk.block b (hK b hb) (Nat.lt_of_lt_of_le hb h.but.size)).trans (h.but.block b hb hn)⟩⟩
set_option maxRecDepth 100000 in
set_option maxHeartbeats 4000000 in
theorem fnew_good {w : World} {B g c tn : Nat} {ws : List Int} (h : PM w B g c tn ws) (n : Nat) (h1 : 1 ≤ tn) (hn : n ≤ 65536) (hs : tn + (8 + n) ≤ ws.length) (ht : tn < 1048576) :
    Calls Try.prog 9 #[.pointer (some ⟨B, 0, none⟩), .int .i64 (n : Int)] w fun e w' => e = .returned (.tuple #[.int .u64 ((tn : Int) * 4), .int .i64 0]) ∧ PM w' B g c (tn + (8 + n)) (newL ws tn n) ∧ But2 B g w w' := by
  have HP := Lib.hid h
  have hB := h.ltB
  have hg := h.ltg
  have hne := h.ma.ne
  have HA := Lib.hid (fun (wx : World) (hx : Below w.heap.size w wx) => pm_alloc (h.keep hx) 19 (6 + n) 0 h1 (by omega) (by omega) (by omega) (by omega))
  have HH := Lib.hid (alloc_head (ws := ws) (a := tn) (k := 19) (T := 6 + n) (R := 0) h1 (by omega) (by omega))
  have d1 : decide ((n : Int) < 0) = false := by simp
  have d2 : decide ((65536 : Int) < (n : Int)) = false := by simp; omega
  have d3 : decide (65536 < n) = false := by simp; omega
  clear h
  refine calls_of_marks Try.func9 rfl ?_
  simp only [Try.ntmps9, List.size_toArray, List.length_cons, List.length_nil, Nat.reduceAdd, Nat.reduceSub, Array.replicate_succ, Array.replicate_zero, List.push_toArray, List.append_toArray, List.nil_append, List.cons_append]
  go_wp2_with fail
  generalize hw1 : World.alloc w _ = w1
  have HB1 := Lib.hid (show Below w.heap.size w w1 by rw [← hw1]; exact (Below.refl _ _).alloc (Nat.le_refl _) _)
  have y2 : w1.cell? ⟨w.heap.size, 0, none⟩ = some (.pointer (some ⟨B, 0, none⟩)) := by rw [← hw1]; simp
  have hs1 : w1.heap.size = w.heap.size + 1 := by rw [← hw1]; simp
  clear hw1
  have HHA := HA.out w1 HB1.out
  rw [show ((19 : Nat) : Int) = 19 from rfl, show ((6 + n : Nat) : Int) = 6 + (n : Int) by push_cast; rfl, show ((0 : Nat) : Int) = 0 from rfl] at HHA
  refine HHA.mono ?_
  clear HHA HA
  rintro e w2 ⟨rfl, hpm, hbt⟩
  have y2 := hbt.cell y2 (by omega) (by omega)
  have HP2 := Lib.hid (show PM w2 B g c (tn + (8 + n)) (allocL ws tn (headWord 19 (6 + n) 0) (6 + n) (6 + n + 0)) by rw [show tn + (8 + n) = tn + (2 + (6 + n) + 0) by omega]; exact hpm)
  have HK2 := Lib.hid ((But2.of_below HB1.out).trans (B := B) (g := g) (hbt))
  have hs2 : w.heap.size + 1 ≤ w2.heap.size := by have := hbt.size; omega
  clear hpm hbt HB1 hs1
  rw [show tn + (2 + (6 + n) + 0) = tn + (8 + n) by omega, show ((19 : Nat) : Int) = 19 from rfl] at HH
  obtain ⟨L0, hL0⟩ : ∃ L, allocL ws tn (headWord 19 (6 + n) 0) (6 + n) (6 + n + 0) = L := ⟨_, rfl⟩
  have HN := Lib.hid (show newL ws tn n = clrL ((L0.set (tn + 2 + 2) 1).set (tn + 2 + 4) 1) tn [] n by unfold newL newL0; rw [hL0])
  have hll : L0.length = ws.length := by rw [← hL0, allocL_len]
  have HLL := Lib.hid hll
  rw [hL0] at HP2 HH
  clear hL0 hll
  have hH := head_of 19 (6 + n : Nat) (0 : Nat) ⟨by omega, by omega, by omega, by omega, by omega⟩
  have HHD := Lib.hid (show hT (headWord 19 (6 + n) 0) = 6 + n ∧ hS (headWord 19 (6 + n) 0) = 8 + n by
    unfold headWord
    exact ⟨by rw [hH.2.1]; push_cast; rfl, by rw [hH.2.2]; push_cast; omega⟩)
  clear hH
  have k1 : smallW 0 = 1 := rfl
  have k2 : smallE 0 = 0 := rfl
  have y2a := fun o => alloc_cell y2 o
  go_wp2_with (go_at_call 26; (with_reducible refine (small_any 0 (by decide) _).mono ?_); rintro e w9 ⟨rfl, rfl⟩; rw [k1, k2])
  clear y2a
  obtain ⟨w3, hw3⟩ : ∃ w3, w2.alloc (Obj.cells #[Value.int IntKind.i64 (tn : Int)] 3) = w3 := ⟨_, rfl⟩
  rw [hw3]
  have hb3 : Below w2.heap.size w2 w3 := by rw [← hw3]; exact (Below.refl _ _).alloc (Nat.le_refl _) _
  have y6 : w3.cell? ⟨w2.heap.size, 0, none⟩ = some (.int .i64 tn) := by rw [← hw3]; simp
  have y2 := below_cell hb3 y2
  have hs3 : w3.heap.size = w2.heap.size + 1 := by rw [← hw3]; simp
  have HP3 := Lib.hid (HP2.out.keep hb3)
  have HK3 := Lib.hid (HK2.out.trans (But2.of_below hb3))
  clear hw3 hb3 HP2 HK2
  have HC := pm_set HP3.out tn 2 1 (by decide) HH.out.2 (by rw [HH.out.1, HHD.out.2]; push_cast; omega) (by decide)
  refine HC.mono ?_
  clear HC
  rintro e w4 ⟨rfl, hpm, hbt⟩
  have HP4 := Lib.hid hpm
  have y2 := hbt.cell y2 (by omega)
  have y6 := hbt.cell y6 (by omega)
  have HK4 := Lib.hid (HK3.out.trans (hbt.two B))
  have hs4 : w3.heap.size ≤ w4.heap.size := hbt.size
  clear hpm hbt HP3 HK3
  have HH4 := Lib.hid (set_head (ws := L0) (a := tn) (q := tn + 2 + 2) (tn := tn + (8 + n)) 1 (by omega))
  go_wp2_with fail
  have HC := pm_set HP4.out tn 4 1 (by decide) (by rw [HH4.out.2]; exact HH.out.2) (by rw [HH4.out.1, HH.out.1, HHD.out.2]; push_cast; omega) (by decide)
  refine HC.mono ?_
  clear HC
  rintro e w5 ⟨rfl, hpm, hbt⟩
  have HP5 := Lib.hid hpm
  have y2 := hbt.cell y2 (by omega)
  have y6 := hbt.cell y6 (by omega)
  have HK5 := Lib.hid (HK4.out.trans (hbt.two B))
  have hs5 : w4.heap.size ≤ w5.heap.size := hbt.size
  clear hpm hbt HP4 HK4
  have HH5 := Lib.hid (set_head (ws := L0.set (tn + 2 + 2) 1) (a := tn) (q := tn + 2 + 4) (tn := tn + (8 + n)) 1 (by omega))
  go_wp2_with (first | (go_at_call 28; (with_reducible refine (unbound_any _).mono ?_); rintro e w9 ⟨rfl, rfl⟩) | (go_at_call 29; (with_reducible refine (registers_any _ _).mono ?_); rintro e w9 ⟨rfl, rfl⟩) | fail)
  obtain ⟨WL, hWL⟩ : ∃ WL, (w5.alloc (Obj.cells #[Value.int IntKind.u64 14] 29)).alloc (Obj.cells #[Value.int IntKind.i64 (n : Int)] 3) = WL := ⟨_, rfl⟩
  rw [hWL]
  have HBL := Lib.hid (show Below w5.heap.size w5 WL by rw [← hWL]; ((repeat' (first | with_reducible assumption | with_reducible exact Below.refl _ _ | with_reducible refine Below.drew ?_ | with_reducible refine Below.alloc ?_ (by first | omega | (simp; omega) | (simp; done) | fail) _ | with_reducible refine Below.setCell ?_ (by first | omega | (simp; omega) | (simp; done) | fail) _ | fail)); (first | done | fail)))
  have hsz : WL.heap.size = w5.heap.size + 2 := by rw [← hWL]; simp
  have ye : WL.cell? ⟨w5.heap.size, 0, none⟩ = some (.int .u64 14) := by rw [← hWL]; exact alloc_cell (by simp) _
  have yn : WL.cell? ⟨w5.heap.size + 1, 0, none⟩ = some (.int .i64 n) := by
    rw [← hWL]
    simp
  have y2 := below_cell HBL.out y2
  have y6 := below_cell HBL.out y6
  have HPL := Lib.hid (HP5.out.keep HBL.out)
  have HKL := Lib.hid (HK5.out.trans (But2.of_below HBL.out))
  have HHL := Lib.hid (And.intro (HH5.out.1.trans (HH4.out.1.trans HH.out.1)) (HH5.out.2.trans (HH4.out.2.trans HH.out.2)))
  obtain ⟨L2, hL2⟩ : ∃ L, (L0.set (tn + 2 + 2) 1).set (tn + 2 + 4) 1 = L := ⟨_, rfl⟩
  have HL2 := Lib.hid (show L2.length = ws.length by rw [← hL2, List.length_set, List.length_set]; exact HLL.out)
  rw [hL2] at HPL HHL HN
  clear hWL HP5 HK5 hL2 HH HH4 HH5
  refine wp_rangeE (K := fun b => b < WL.heap.size ∧ b ≠ g) (It := ItR) (N := n) (by rfl) (fun _ _ => enter_regs _ _) ?hseq ?hKs ?hps
    (NJ B g c (tn + (8 + n)) L2 tn WL) ?hJ ?hIt ?h0 ?hround ?hdone
  case hseq =>
    intro W hk hs
    exact regs_gives n (by omega) W (w5.heap.size + 1) _ ((World.cell?_of_block (a := ⟨w5.heap.size + 1, 0, none⟩) (hk.block _ trivial (by dsimp only; omega))).trans yn)
  case hKs => intro b hb; exact hb.1
  case hps => rintro k A args rfl; rfl
  case hJ =>
    intro E k A A' hE hj hk
    exact hj.kw hk (fun b hb => by omega) (by omega) (by omega)
  case hIt => rintro k A A' args rfl hk; rfl
  case h0 => exact fun E => ⟨HPL.out, But1.of (Below.refl _ _)⟩
  case hround =>
    rintro l E k args A hE hEA hkn hj rfl
    clear hj
    gi_wp2
    (try refine ⟨trivial, ?_⟩)
    intro A5 hEA5 hj hit
    have HJ := Lib.hid hj
    have z2 := hj.but.cell y2 (by omega)
    have z6 := hj.but.cell y6 (by omega)
    have ze := hj.but.cell ye (by omega)
    have hkz : 0 ≤ (k : Int) ∧ (k : Int) < 9223372036854775808 := by omega
    clear hj hit
    have HPJ := Lib.hid HJ.out.pm
    have hkl : tn + 8 + k ≤ L2.length := by rw [HL2.out]; omega
    have HCH := Lib.hid (clr_head L2 tn [] k (tn + (8 + n)) hkl)
    have HST := Lib.hid (fun (x : Int) (hx : x = 6 + (k : Int)) => by
      have h2 := pm_set HPJ.out tn (6 + k) 14 (by decide) (by rw [HCH.out.2]; exact HHL.out.2) (by rw [HCH.out.1, HHL.out.1, HHD.out.2]; push_cast; omega) (by decide)
      rw [show ((6 + k : Nat) : Int) = x by rw [hx]; push_cast; rfl] at h2
      exact h2)
    gi_wp2
    refine ⟨trivial, rfl, CallsIn.mono (CallsIn.inRound l (callsIn_wide.2 (HST.out _ rfl))) ?_⟩
    rintro e w7 ⟨rfl, hpm, hbt⟩
    have HPM := Lib.hid hpm
    have HBT := Lib.hid hbt
    clear hpm hbt
    gi_wp2
    refine ⟨⟨?_, HJ.out.but.trans HBT.out⟩, HBT.out.kw fun b hb => ?_⟩
    · have : clrL L2 tn [] (k + 1) = (clrL L2 tn [] k).set (tn + 8 + k) 14 := by
        conv => lhs; unfold clrL
        rw [if_neg (by rw [hasW_nil]; simp)]
      rw [this, show tn + 8 + k = tn + 2 + (6 + k) by omega]
      exact HPM.out
    · rcases hb with h | h | h | h <;> omega
  case hdone =>
    intro E W hE hj hD
    have HJ := Lib.hid hj
    have HD := Lib.hid hD
    have HEE := Lib.hid hE
    have z6 := hj.but.cell y6 (by omega)
    clear hj hD hE
    have a1 : addrW tn = (tn : Int) * 4 := by unfold addrW; rw [if_pos (by omega)]
    have a2 : addrE tn = 0 := by unfold addrE; rw [if_pos (by omega)]
    go_wp2_with (go_at_call 30; (with_reducible refine (addr_any tn (wfi_mk (by omega)) _).mono ?_); rintro e w9 ⟨rfl, rfl⟩; rw [a1, a2])
    refine leaves_marks (S := WL.heap.size) _ _ ⟨[w5.heap.size + 2], rfl, by simp, fun D hm => by simp at hm; subst hm; exact ⟨by omega, by have := HD.out; rwa [hsz] at this⟩⟩ ?_
    intro W' hk
    refine ⟨_, results_tmp2 rfl _ _ _, rfl, ?_, ?_⟩
    · rw [HN.out]
      exact HJ.out.pm.of (hk.block _ (.inl (by omega)) (by have := HJ.out.but.size; omega)) (hk.block _ (.inl (by omega)) (by have := HJ.out.but.size; omega))
    · have h2 := HKL.out.trans (HJ.out.but.two B)
      exact ⟨hk.os.trans h2.os, hk.tape.trans h2.tape, hk.output.trans h2.output, Nat.le_trans h2.size hk.size, fun b hb h1 hn => (hk.block b (.inl (by omega)) (Nat.lt_of_lt_of_le hb h2.size)).trans (h2.block b hb h1 hn)⟩
end Go.Proofs.Ytilonacjmihglaa
