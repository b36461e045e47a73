/- Words laid one behind the other, plainly; a new frame's words. Layer 16, the document's: Lay: a new object of given words. Layer 20, the document's: New. -/
import Derived.Test.YtilonacjmihglaaPFnew
import Derived.Test.YtilonacjmihglaaPRoomS
import Derived.Test.YtilonacjmihglaaPRefAllocO
import Derived.Test.YtilonacjmihglaaPGAlloc
import Derived.Test.YtilonacjmihglaaPGSlCl
namespace Go.Proofs.Ytilonacjmihglaa
section
open Go Go.ChangeShapes Go.WideShapes Go.ChangeAt Go.RowKit
set_option linter.unusedVariables false
set_option linter.unusedSimpArgs false
def putL : List Int → Nat → List Int → List Int
  | ws, _, [] => ws
  | ws, q, x :: l => putL (ws.set q x) (q + 1) l
theorem putL_len : ∀ (l ws : List Int) (q : Nat), (putL ws q l).length = ws.length
  | [], ws, q => rfl
  | x :: l, ws, q => by unfold putL; rw [putL_len l]; simp
theorem putL_getD : ∀ (l ws : List Int) (q j : Nat), q + l.length ≤ ws.length → (putL ws q l).getD j 0 = if q ≤ j ∧ j < q + l.length then l.getD (j - q) 0 else ws.getD j 0
  | [], ws, q, j, _ => by unfold putL; rw [if_neg (by simp)]
  | x :: l, ws, q, j, h => by
    rw [List.length_cons] at h
    unfold putL
    rw [putL_getD l (ws.set q x) (q + 1) j (by rw [List.length_set]; omega), getD_set, List.length_cons]
    by_cases h1 : q + 1 ≤ j ∧ j < q + 1 + l.length
    · rw [if_pos h1, if_pos (by omega), show j - q = (j - (q + 1)) + 1 by omega]; rfl
    · rw [if_neg h1]
      by_cases h2 : j = q
      · subst h2
        rw [if_pos ⟨rfl, by omega⟩, if_pos ⟨Nat.le_refl _, by omega⟩, Nat.sub_self]; rfl
      · rw [if_neg (by omega), if_neg (by omega)]
theorem putL_snoc : ∀ (l ws : List Int) (q : Nat) (x : Int), putL ws q (l ++ [x]) = (putL ws q l).set (q + l.length) x
  | [], ws, q, x => by simp [putL]
  | y :: l, ws, q, x => by
    rw [List.cons_append]
    unfold putL
    rw [putL_snoc l (ws.set q y) (q + 1) x, List.length_cons, show q + 1 + l.length = q + (l.length + 1) by omega]
theorem putL_step (ws l : List Int) (q k : Nat) (h : k < l.length) : putL ws q (l.take (k + 1)) = (putL ws q (l.take k)).set (q + k) (l.getD k 0) := by
  rw [List.take_add_one, List.getElem?_eq_getElem h]
  simp only [Option.toList_some]
  rw [putL_snoc, List.length_take, Nat.min_eq_left (by omega)]
  simp [List.getD_eq_getElem?_getD, h]
/-- A new frame's tagged words. -/
def frmL (n : Nat) : List Int := [2, 2, 1, 2, 1, 2] ++ List.replicate n 14
theorem frmL_len (n : Nat) : (frmL n).length = 6 + n := by simp [frmL]; omega
theorem frmL_getD (n k : Nat) (h : k < 6 + n) : (frmL n).getD k 0 = if k = 2 ∨ k = 4 then 1 else if k < 6 then 2 else 14 := by
  by_cases h6 : k < 6
  · have : k = 0 ∨ k = 1 ∨ k = 2 ∨ k = 3 ∨ k = 4 ∨ k = 5 := by omega
    rcases this with rfl | rfl | rfl | rfl | rfl | rfl <;> rfl
  · rw [if_neg (by omega), if_neg h6]
    unfold frmL
    rw [List.getD_eq_getElem?_getD, List.getElem?_append_right (by simp; omega), List.getElem?_replicate, if_pos (by simp; omega)]
    rfl
theorem newL_put (ws : List Int) (tn n : Nat) (h : tn + (8 + n) ≤ ws.length) : newL ws tn n = putL (allocL ws tn (headWord 19 (6 + n) 0) (6 + n) (6 + n + 0)) (tn + 2) (frmL n) := by
  have hl : (newL ws tn n).length = ws.length := by unfold newL newL0; rw [clr_len]; simp [allocL_len]
  refine list_ext_getD (by rw [hl, putL_len, allocL_len]) fun j hj => ?_
  rw [putL_getD _ _ _ _ (by rw [frmL_len, allocL_len]; omega), frmL_len]
  unfold newL newL0
  rw [clr_getD _ _ _ _ _ (by simp [allocL_len]; omega), getD_set, getD_set, getD_allocL _ _ _ _ _ _ (by omega)]
  simp only [List.length_set, allocL_len]
  unfold fillTo
  by_cases h1 : tn + 2 ≤ j ∧ j < tn + 2 + (6 + n)
  · rw [if_pos h1, frmL_getD n _ (by omega)]
    by_cases h8 : tn + 8 ≤ j
    · rw [if_pos ⟨h8, by omega, hasW_nil _⟩, if_neg (by omega), if_neg (by omega)]
    · rw [if_neg (by omega)]
      by_cases h4 : j = tn + 2 + 4
      · rw [if_pos ⟨h4, by omega⟩, if_pos (by omega)]
      · rw [if_neg (by omega)]
        by_cases h2 : j = tn + 2 + 2
        · rw [if_pos ⟨h2, by omega⟩, if_pos (by omega)]
        · rw [if_neg (by omega), if_neg (by omega), if_neg (by omega), if_pos (by omega), if_pos (by omega), if_neg (by omega), if_pos (by omega)]
  · rw [if_neg h1, if_neg (by omega), if_neg (by omega), if_neg (by omega)]
theorem fit_putL {l ws : List Int} {q : Nat} (h : Fit ws) (h2 : Fit l) (hb : q + l.length ≤ ws.length) : Fit (putL ws q l) := fun i => by
  rw [putL_getD _ _ _ _ hb]
  split
  · exact h2 _
  · exact h i
end
section
open Go Go.ChangeShapes Go.WideShapes Go.ChangeAt Go.RowKit
set_option linter.unusedVariables false
set_option linter.unusedSimpArgs false
/-- The words behind a new object of these tagged and raw words. -/
def layL (ws : List Int) (tn : Nat) (k : Int) (tl rl : List Int) : List Int := putL (putL (allocL ws tn (headWord k tl.length rl.length) tl.length (tl.length + rl.length)) (tn + 2) tl) (tn + 2 + tl.length) rl
theorem layL_len (ws : List Int) (tn : Nat) (k : Int) (tl rl : List Int) : (layL ws tn k tl rl).length = ws.length := by unfold layL; rw [putL_len, putL_len, allocL_len]
def LayPost (W : World) (ws : List Int) (tn : Nat) (k : Int) (tl rl : List Int) (e : Ending) (w' : World) : Prop :=
  ∃ g cap, e = .returned (.tuple #[.agg #[.slice (some ⟨g, 0, none⟩) ws.length cap, .int .i64 ((tn : Int) + ((tl.length : Int) + (rl.length : Int) + 2))], .int .u64 (4 * (tn : Int)), .bool true]) ∧ W.heap.size ≤ g ∧ ws.length ≤ cap ∧
    Row w' g ws.length cap (fun i => (layL ws tn k tl rl).getD i 0) ∧ Below W.heap.size W w'
theorem upd_set (L : List Int) (q : Nat) (x : Int) (h : q < L.length) : ∀ i, upd (fun i => L.getD i 0) q x i = (L.set q x).getD i 0 := fun i => by
  rw [getD_set]; unfold upd
  by_cases e : i = q
  · rw [if_pos e, if_pos ⟨e, h⟩]
  · rw [if_neg e, if_neg (fun g => e g.1)]
theorem lay_wraps {tn p n : Nat} (h : tn + 2 + p ≤ n) (hn : n ≤ 17592186043904) : IntKind.i64.wrap ((tn : Int) + 2) = (tn : Int) + 2 ∧ IntKind.i64.wrap ((tn : Int) + 2 + (p : Int)) = (tn : Int) + 2 + (p : Int) :=
  ⟨IntWalk.i64_in _ (by omega), IntWalk.i64_in _ (by omega)⟩
theorem lay_wraps3 {tn T p n : Nat} (h : tn + 2 + T + p ≤ n) (hn : n ≤ 17592186043904) : IntKind.i64.wrap ((tn : Int) + 2) = (tn : Int) + 2 ∧ IntKind.i64.wrap ((tn : Int) + 2 + (T : Int)) = (tn : Int) + 2 + (T : Int) ∧ IntKind.i64.wrap ((tn : Int) + 2 + (T : Int) + (p : Int)) = (tn : Int) + 2 + (T : Int) + (p : Int) :=
  ⟨IntWalk.i64_in _ (by omega), IntWalk.i64_in _ (by omega), IntWalk.i64_in _ (by omega)⟩
theorem lay_wrapU {tn n : Nat} (h : tn ≤ n) (hn : n ≤ 17592186043904) : IntKind.u64.wrap (tn : Int) = (tn : Int) ∧ IntKind.u64.wrap (4 * (tn : Int)) = 4 * (tn : Int) := by
  rw [u64w, u64w]; omega
theorem lay_meas {n k : Nat} (h : k < n) : n - (intOf (.int .i64 (((k + 1 : Nat) : Int)))).toNat < n - (intOf (.int .i64 (k : Int))).toNat := by simp [intOf]; omega
set_option maxRecDepth 100000 in
set_option maxHeartbeats 4000000 in
theorem lay_good (v : Value) (ws : List Int) (tn : Nat) (k : Int) (tv : Value) (tl : List Int) (rv : Value) (rl : List Int) (w : World) (hr : Rd w v ws) (htv : Rd w tv tl) (hrv : Rd w rv rl) (h1 : 1 ≤ tn) (h2 : tn ≤ ws.length) (hk : 1 ≤ k ∧ k ≤ 255) (hT : (tl.length : Int) ≤ 1048576) (hR : (rl.length : Int) ≤ 1048576)
    (hs : (2 : Int) + tl.length + rl.length < 16777216 ∧ (2 : Int) + tl.length + rl.length ≤ (ws.length : Int) - (tn : Int)) :
    Calls Try.prog 24 #[.agg #[v, .int .i64 tn], .int .i64 k, tv, rv] w (LayPost w ws tn k tl rl) := by
  have HA := Lib.hid (fun (wx : World) (hx : Below w.heap.size w wx) => refalloc_own v ws tn k tl.length rl.length wx (hr.keep hx) h1 h2 hk hT hR hs)
  obtain ⟨p, c, rfl, hm⟩ := rd_form0 hr
  obtain ⟨pt, ct, rfl, hmt⟩ := rd_form0 htv
  obtain ⟨pr, cr, rfl, hmr⟩ := rd_form0 hrv
  have HTV := Lib.hid htv
  have HRV := Lib.hid hrv
  obtain ⟨s1, s2⟩ := hs
  have S1 := Lib.hid s1
  have S2 := Lib.hid s2
  clear hr htv hrv s1 s2 hk
  go_enter Try.func24, Try.ntmps24
  go_wp2_with fail
  generalize hW0 : World.alloc (World.alloc w _) _ = W0
  have HB0 := Lib.hid (show Below w.heap.size w W0 by rw [← hW0]; exact ((Below.refl _ _).alloc (Nat.le_refl _) _).alloc (by simp) _)
  have hsz0 : W0.heap.size = w.heap.size + 2 := by rw [← hW0]; simp
  have z0 : W0.cell? ⟨w.heap.size + 1, 0, none⟩ = some (.slice none 0 0) := by rw [← hW0]; simp
  have z1 : W0.cell? ⟨w.heap.size + 1, 1, none⟩ = some (.int .i64 0) := by rw [← hW0]; simp
  have zf0 : W0.frozen? ⟨w.heap.size + 1, 0, none⟩ = false := by rw [← hW0]; simp
  have zf1 : W0.frozen? ⟨w.heap.size + 1, 1, none⟩ = false := by rw [← hW0]; simp
  have Z := Lib.hid (And.intro (And.intro z0 z1) (And.intro zf0 zf1))
  clear hW0 z0 z1 zf0 zf1
  refine (HA.out _ HB0.out).mono ?_
  rintro e w1 ⟨g, cap, rfl, hg, hcap, ⟨hrow, hmx⟩, hb1⟩
  have HB1 := Lib.hid (HB0.out.trans (hb1.mono HB0.out.size))
  have HE1 := Lib.hid (hb1.block (w.heap.size + 1) (by omega))
  have hs1 : w.heap.size + 1 < w1.heap.size := by have := hb1.size; omega
  have HROW := Lib.hid hrow
  have HG := Lib.hid (show w.heap.size + 2 ≤ g by omega)
  clear hb1 hrow HB0 hsz0 hg
  go_wp2_with fail
  generalize hw2 : World.alloc w1 _ = w2
  obtain ⟨top, htop⟩ : ∃ x : Int, (tn : Int) + ((tl.length : Int) + (rl.length : Int) + 2) = x := ⟨_, rfl⟩
  rw [htop] at hw2
  have HTOP := Lib.hid htop
  obtain ⟨L0, hL0⟩ : ∃ L, allocL ws tn (headWord k tl.length rl.length) tl.length (tl.length + rl.length) = L := ⟨_, rfl⟩
  have hl0 : L0.length = ws.length := by rw [← hL0, allocL_len]
  have hm : MA w2 w1.heap.size g ws.length cap top (fun i => L0.getD i 0) := by
    rw [← hw2]
    have h3 := HROW.out.ext (G := fun i => L0.getD i 0) (fun i hi => by rw [← hL0, getD_allocL _ _ _ _ _ _ (by have := S2.out; omega)])
    exact ⟨by simp, by simp, by simp, h3.block (Below.heap_alloc _ _ _ h3.lt), hcap, hmx, by have := h3.lt; omega⟩
  have HB2 := Lib.hid (show Below w.heap.size w w2 by rw [← hw2]; exact HB1.out.alloc (by omega) _)
  have HE := Lib.hid (show w2.heap[w.heap.size + 1]? = W0.heap[w.heap.size + 1]? by rw [← hw2]; exact (Below.heap_alloc _ _ _ hs1).trans HE1.out)
  have hlt2 : w.heap.size + 1 < w2.heap.size := by rw [← hw2]; simp; omega
  have HLL := Lib.hid (show layL ws tn k tl rl = putL (putL L0 (tn + 2) tl) (tn + 2 + tl.length) rl by unfold layL; rw [hL0])
  have HL0 := Lib.hid hl0
  clear hw2 htop HROW HE1 hL0 hl0 HB1 HA
  have hge : w.heap.size + 1 < w1.heap.size := hs1
  generalize hBB : w1.heap.size = B at *
  clear hBB hs1
  have HS0 := Lib.hid (AL.start hm 0)
  clear hm
  go_wp2_with fail
  go_loopw [14] (fun s wr => ∃ p : Nat, s = .int .i64 p ∧ p ≤ tl.length ∧ AL w2 B g ws.length cap top (fun i => (putL L0 (tn + 2) (tl.take p)).getD i 0) wr) (fun s _ => tl.length - (intOf s).toNat)
  case atStart => exact ⟨0, by go_num, Nat.zero_le _, HS0.out⟩
  case round =>
    obtain ⟨j, rfl, hj, hS⟩ := hrel
    have hb0 := hS.box0
    have hb1 := hS.box1
    have HBW := Lib.hid (hS.below HB2.out (by omega) (by have := HG.out; omega))
    by_cases hlt : j < tl.length
    · have hlz : (j : Int) < (tl.length : Int) := by omega
      obtain ⟨b, off, cc, hsl, hcc, hll, hcell⟩ := (HTV.out.keep HBW.out).some (by omega)
      cases hsl
      have hcj := hcell j hlt
      have hq : tn + 2 + j < ws.length := by have := S2.out; omega
      have hcq := hS.row.cell hS.le hq
      have hfq := hS.row.frozen (tn + 2 + j)
      have HN := Lib.hid ((hS.set (tn + 2 + j) (tl.getD j 0)).same (fun i => by rw [upd_set _ _ _ (by rw [putL_len, HL0.out]; exact hq), ← putL_step _ _ _ _ hlt]))
      have hcq' : wr.cell? ⟨g, tn + 2 + j, none⟩ = some (.int .u64 ((putL L0 (tn + 2) (List.take j tl)).getD (tn + 2 + j) 0)) := hcq
      generalize (putL L0 (tn + 2) (List.take j tl)).getD (tn + 2 + j) 0 = x0 at hcq'
      generalize tl.getD j 0 = x1 at hcj HN
      obtain ⟨n1, n2⟩ := lay_wraps (show tn + 2 + j ≤ ws.length by omega) hmx
      have g1 : decide ((ws.length : Int) ≤ (tn : Int) + 2 + (j : Int)) = false := by rw [decide_eq_false_iff_not]; omega
      have g2 : (tn : Int) + 2 + (j : Int) < (ws.length : Int) := by omega
      have e1 : ((tn : Int) + 2 + (j : Int)).toNat = tn + 2 + j := by omega
      clear hcq hS hcell
      go_wp2_with fail
      go_region
      go_wp2_with fail
      go_roundw
      case rel => exact ⟨j + 1, by go_num, hlt, HN.out.drewN 1⟩
      case measure => simp [intOf]; omega
    · obtain rfl : j = tl.length := by omega
      have hlz : ¬ (tl.length : Int) < (tl.length : Int) := by omega
      rw [List.take_length] at hS
      go_wp2_with fail
      clear hb0 hb1 hlt hj HBW HS0
      obtain ⟨L1, hL1⟩ : ∃ L, putL L0 (tn + 2) tl = L := ⟨_, rfl⟩
      have hl1 : L1.length = ws.length := by rw [← hL1, putL_len, HL0.out]
      rw [hL1] at hS HLL
      have HL1 := Lib.hid hl1
      have HS1 := Lib.hid hS
      clear hS hL1 hl1
      go_loopw [15] (fun s wr => ∃ p : Nat, s = .int .i64 p ∧ p ≤ rl.length ∧ AL w2 B g ws.length cap top (fun i => (putL L1 (tn + 2 + tl.length) (rl.take p)).getD i 0) wr) (fun s _ => rl.length - (intOf s).toNat)
      case atStart => exact ⟨0, by go_num, Nat.zero_le _, HS1.out⟩
      case round =>
        obtain ⟨j, rfl, hj, hS⟩ := hrel
        have hb0 := hS.box0
        have hb1 := hS.box1
        have HBW := Lib.hid (hS.below HB2.out (by omega) (by have := HG.out; omega))
        by_cases hlt : j < rl.length
        · have hlz : (j : Int) < (rl.length : Int) := by omega
          obtain ⟨b, off, cc, hsl, hcc, hll, hcell⟩ := (HRV.out.keep HBW.out).some (by omega)
          cases hsl
          have hcj := hcell j hlt
          have hq : tn + 2 + tl.length + j < ws.length := by have := S2.out; omega
          have hcq := hS.row.cell hS.le hq
          have hfq := hS.row.frozen (tn + 2 + tl.length + j)
          have HN := Lib.hid ((hS.set (tn + 2 + tl.length + j) (rl.getD j 0)).same (fun i => by rw [upd_set _ _ _ (by rw [putL_len, HL1.out]; exact hq), ← putL_step _ _ _ _ hlt]))
          have hcq' : wr.cell? ⟨g, tn + 2 + tl.length + j, none⟩ = some (.int .u64 ((putL L1 (tn + 2 + tl.length) (List.take j rl)).getD (tn + 2 + tl.length + j) 0)) := hcq
          generalize (putL L1 (tn + 2 + tl.length) (List.take j rl)).getD (tn + 2 + tl.length + j) 0 = x0 at hcq'
          generalize rl.getD j 0 = x1 at hcj HN
          obtain ⟨n1, n2, n3⟩ := lay_wraps3 (show tn + 2 + tl.length + j ≤ ws.length by omega) hmx
          have g1 : decide ((ws.length : Int) ≤ (tn : Int) + 2 + (tl.length : Int) + (j : Int)) = false := by rw [decide_eq_false_iff_not]; omega
          have g2 : (tn : Int) + 2 + (tl.length : Int) + (j : Int) < (ws.length : Int) := by omega
          have e1 : ((tn : Int) + 2 + (tl.length : Int) + (j : Int)).toNat = tn + 2 + tl.length + j := by omega
          clear hcq hS hcell
          go_wp2_with fail
          go_region
          go_wp2_with fail
          go_roundw
          case rel => exact ⟨j + 1, by go_num, hlt, HN.out.drewN 1⟩
          case measure => simp [intOf]; omega
        · obtain rfl : j = rl.length := by omega
          have hlz : ¬ (rl.length : Int) < (rl.length : Int) := by omega
          rw [List.take_length, ← HLL.out] at hS
          have hfr := hS.fr
          have hEE := Lib.hid ((hS.but.block (w.heap.size + 1) (by omega) (by omega) (by have := HG.out; omega)).trans HE.out)
          have HROW := Lib.hid hS.row
          have hgl := hS.row.lt
          have y0 := (World.cell?_of_block (a := ⟨w.heap.size + 1, 0, none⟩) hEE.out).trans Z.out.1.1
          have y1 := (World.cell?_of_block (a := ⟨w.heap.size + 1, 1, none⟩) hEE.out).trans Z.out.1.2
          have y2 := (World.frozen?_of_block (a := ⟨w.heap.size + 1, 0, none⟩) hEE.out).trans Z.out.2.1
          have y3 := (World.frozen?_of_block (a := ⟨w.heap.size + 1, 1, none⟩) hEE.out).trans Z.out.2.2
          obtain ⟨n1, n2⟩ := lay_wrapU h2 hmx
          clear hS hEE hfr hlt hj HS1
          go_wp2_with fail
          all_goals have z2 := two_set (x0 := .slice (some ⟨g, 0, none⟩) ws.length cap) (x1 := .int .i64 top) y0 y1
          all_goals refine bodyPost_ret (v := .tuple #[.agg #[.slice (some ⟨g, 0, none⟩) ws.length cap, .int .i64 top], .int .u64 (4 * (tn : Int)), .bool true]) (by simp [results, Try.results24, go_sem, z2.1, z2.2]) rfl ?_
          all_goals refine ⟨g, cap, by rw [HTOP.out], by have := HG.out; omega, hcap, HROW.out.block ?_, (HBW.out.setCell (Nat.le_succ _) _).setCell (Nat.le_succ _) _⟩
          all_goals exact (Below.heap_setCell _ _ _ _ (by have := HG.out; simp; omega)).trans (Below.heap_setCell _ _ _ _ (by have := HG.out; simp; omega))
/-- .. where there is no room. -/
def LayNo (W : World) (v : Value) (tn : Nat) (e : Ending) (w' : World) : Prop := e = .returned (.tuple #[.agg #[v, .int .i64 tn], .int .u64 0, .bool false]) ∧ Below W.heap.size W w'
set_option maxRecDepth 100000 in
set_option maxHeartbeats 4000000 in
theorem lay_full (v : Value) (ws : List Int) (tn : Nat) (k : Int) (tv : Value) (tl : List Int) (rv : Value) (rl : List Int) (w : World) (hr : Rd w v ws) (htv : Rd w tv tl) (hrv : Rd w rv rl) (h1 : 1 ≤ tn) (h2 : tn ≤ ws.length) (hk : 1 ≤ k ∧ k ≤ 255) (hT : (tl.length : Int) ≤ 1048576) (hR : (rl.length : Int) ≤ 1048576)
    (hs : ¬ ((2 : Int) + tl.length + rl.length < 16777216 ∧ (2 : Int) + tl.length + rl.length ≤ (ws.length : Int) - (tn : Int))) :
    Calls Try.prog 24 #[.agg #[v, .int .i64 tn], .int .i64 k, tv, rv] w (LayNo w v tn) := by
  obtain ⟨p, c, rfl, hm⟩ := rd_form0 hr
  have HA := Lib.hid (fun (wx : World) => refalloc_five p ws.length c tn k tl.length rl.length wx hm (by unfold allocErr; rw [if_pos (by omega), if_neg hs]))
  obtain ⟨pt, ct, rfl, hmt⟩ := rd_form0 htv
  obtain ⟨pr, cr, rfl, hmr⟩ := rd_form0 hrv
  clear hr htv hrv hs hk
  go_enter Try.func24, Try.ntmps24
  go_wp2_with fail
  generalize hW0 : World.alloc (World.alloc w _) _ = W0
  have HB0 := Lib.hid (show Below w.heap.size w W0 by rw [← hW0]; exact ((Below.refl _ _).alloc (Nat.le_refl _) _).alloc (by simp) _)
  have hsz0 : W0.heap.size = w.heap.size + 2 := by rw [← hW0]; simp
  have z0 : W0.cell? ⟨w.heap.size + 1, 0, none⟩ = some (.slice none 0 0) := by rw [← hW0]; simp
  have z1 : W0.cell? ⟨w.heap.size + 1, 1, none⟩ = some (.int .i64 0) := by rw [← hW0]; simp
  have zf0 : W0.frozen? ⟨w.heap.size + 1, 0, none⟩ = false := by rw [← hW0]; simp
  have zf1 : W0.frozen? ⟨w.heap.size + 1, 1, none⟩ = false := by rw [← hW0]; simp
  have m0 : W0.cell? ⟨w.heap.size, 0, none⟩ = some (.slice p ws.length c) := by rw [← hW0]; exact alloc_cell (by simp) _
  have m1 : W0.cell? ⟨w.heap.size, 1, none⟩ = some (.int .i64 tn) := by rw [← hW0]; exact alloc_cell (by simp) _
  have HC := Lib.hid (And.intro (And.intro z0 z1) (And.intro zf0 (And.intro zf1 (And.intro m0 m1))))
  clear hW0 z0 z1 zf0 zf1 m0 m1
  refine (HA.out _).mono ?_
  rintro e w1 ⟨rfl, hb1⟩
  have HB1 := Lib.hid (HB0.out.trans (hb1.mono HB0.out.size))
  have hs1 : w.heap.size + 1 < w1.heap.size := by have := hb1.size; omega
  go_upto_region 2 with fail
  generalize hw2 : World.alloc w1 _ = w2
  have hb2 : Below w1.heap.size w1 w2 := by rw [← hw2]; exact (Below.refl _ _).alloc (Nat.le_refl _) _
  have HB2 := Lib.hid (HB1.out.trans (hb2.mono HB1.out.size))
  have q := fun {X : Nat} (hx : X < W0.heap.size) => (hb2.block X (by have := hb1.size; omega)).trans (hb1.block X hx)
  have y0 := (World.cell?_of_block (a := ⟨w.heap.size + 1, 0, none⟩) (q (X := w.heap.size + 1) (by omega))).trans HC.out.1.1
  have y1 := (World.cell?_of_block (a := ⟨w.heap.size + 1, 1, none⟩) (q (X := w.heap.size + 1) (by omega))).trans HC.out.1.2
  have y2 := (World.frozen?_of_block (a := ⟨w.heap.size + 1, 0, none⟩) (q (X := w.heap.size + 1) (by omega))).trans HC.out.2.1
  have y3 := (World.frozen?_of_block (a := ⟨w.heap.size + 1, 1, none⟩) (q (X := w.heap.size + 1) (by omega))).trans HC.out.2.2.1
  have y4 := (World.cell?_of_block (a := ⟨w.heap.size, 0, none⟩) (q (X := w.heap.size) (by omega))).trans HC.out.2.2.2.1
  have y5 := (World.cell?_of_block (a := ⟨w.heap.size, 1, none⟩) (q (X := w.heap.size) (by omega))).trans HC.out.2.2.2.2
  clear q hb1 hb2 hw2 HB0 HC HB1
  go_wp2_with fail
  have z2 := two_set (x0 := .slice p ws.length c) (x1 := .int .i64 (tn : Int)) y0 y1
  refine bodyPost_ret (v := .tuple #[.agg #[.slice p ws.length c, .int .i64 (tn : Int)], .int .u64 0, .bool false]) (by simp [results, Try.results24, go_sem, z2.1, z2.2]) rfl ?_
  exact ⟨rfl, (HB2.out.setCell (Nat.le_succ _) _).setCell (Nat.le_succ _) _⟩
end
section
open Go Go.ChangeShapes Go.WideShapes Go.ChangeAt Go.RowKit
set_option linter.unusedVariables false
set_option linter.unusedSimpArgs false
def newE (len tn : Nat) (n : Int) : Int := if n < 0 ∨ 65536 < n then 1 else if (tn : Int) + 8 + n ≤ (len : Int) then 0 else 5
def newM (ws : List Int) (tn : Nat) (n : Int) : List Int := if newE ws.length tn n = 0 then newL ws tn n.toNat else ws
def newT (len tn : Nat) (n : Int) : Nat := if newE len tn n = 0 then tn + (8 + n.toNat) else tn
def newW (len tn : Nat) (n : Int) : Int := if newE len tn n = 0 then 4 * (tn : Int) else 0
theorem new_one {len tn : Nat} {n : Int} (h : n < 0 ∨ 65536 < n) : newE len tn n = 1 ∧ newT len tn n = tn ∧ newW len tn n = 0 ∧ ∀ ws : List Int, ws.length = len → newM ws tn n = ws := by
  have h1 : newE len tn n = 1 := by unfold newE; rw [if_pos h]
  refine ⟨h1, by unfold newT; rw [h1]; rfl, by unfold newW; rw [h1]; rfl, fun ws hw => by unfold newM; rw [hw, h1]; rfl⟩
theorem new_five {len tn N : Nat} (h0 : N ≤ 65536) (h : ¬ tn + 8 + N ≤ len) : newE len tn (N : Int) = 5 ∧ newT len tn (N : Int) = tn ∧ newW len tn (N : Int) = 0 ∧ ∀ ws : List Int, ws.length = len → newM ws tn (N : Int) = ws := by
  have h1 : newE len tn (N : Int) = 5 := by unfold newE; rw [if_neg (by omega), if_neg (by omega)]
  refine ⟨h1, by unfold newT; rw [h1]; rfl, by unfold newW; rw [h1]; rfl, fun ws hw => by unfold newM; rw [hw, h1]; rfl⟩
theorem new_zero {len tn N : Nat} (h0 : N ≤ 65536) (h : tn + 8 + N ≤ len) : newE len tn (N : Int) = 0 ∧ newT len tn (N : Int) = tn + (8 + N) ∧ newW len tn (N : Int) = 4 * (tn : Int) ∧ ∀ ws : List Int, ws.length = len → newM ws tn (N : Int) = newL ws tn N := by
  have h1 : newE len tn (N : Int) = 0 := by unfold newE; rw [if_neg (by omega), if_pos (by omega)]
  refine ⟨h1, by unfold newT; rw [h1]; rfl, by unfold newW; rw [h1]; rfl, fun ws hw => by unfold newM; rw [hw, h1]; rfl⟩
/-- What is answered is what came in, or new memory. -/
def Frs (W : World) (v v' : Value) : Prop := v' = v ∨ ∃ g n c, v' = .slice (some ⟨g, 0, none⟩) n c ∧ W.heap.size ≤ g
def RNPost (W : World) (v : Value) (ws : List Int) (tn : Nat) (n : Int) (e : Ending) (w' : World) : Prop :=
  ∃ v', e = .returned (.tuple #[.agg #[v', .int .i64 (newT ws.length tn n : Int)], .int .u64 (newW ws.length tn n), .int .i64 (newE ws.length tn n)]) ∧ Rd w' v' (newM ws tn n) ∧ Below W.heap.size W w' ∧ Frs W v v'
theorem frm_succ (k : Nat) : frmL (k + 1) = frmL k ++ [14] := by unfold frmL; rw [List.replicate_succ', List.append_assoc]
theorem own_lit20 {w : World} {T : TypeId} {cs : Array Value} {b n B : Nat} (hb : b = w.heap.size) (hn : cs.size = n) (hm : n ≤ maxLen) (hB : B ≤ w.heap.size) : (w.alloc (.cells cs T)).ownsRow B T 1 (.slice (some ⟨b, 0, none⟩) n n) n cs.toList := by
  subst hb
  exact ⟨by simp [hn], .inr ⟨w.heap.size, n, cs, rfl, hB, heap_alloc_new w _, Nat.le_refl _, hm, by omega, by rw [List.take_of_length_le (by simp [hn])]⟩⟩
theorem newL_lay (ws : List Int) (tn n : Nat) (h : tn + (8 + n) ≤ ws.length) : newL ws tn n = layL ws tn 19 (frmL n) [] := by
  rw [newL_put _ _ _ h]; unfold layL; rw [frmL_len]; rfl
theorem row_rd {w : World} {g c : Nat} {L ws : List Int} (h : Row w g ws.length c (fun i => L.getD i 0)) (hc : ws.length ≤ c) (hm : ws.length ≤ 17592186043904) (hl : L.length = ws.length) : Rd w (.slice (some ⟨g, 0, none⟩) ws.length c) L := by
  have h1 := rd_ofRow h hc hm
  rw [show (List.range ws.length).map (fun i => L.getD i 0) = L from list_ext_getD (by simp [hl]) (fun i hi => by simp at hi; simp [List.getD_eq_getElem?_getD, hi])] at h1
  exact h1
theorem newL_len (ws : List Int) (tn n : Nat) : (newL ws tn n).length = ws.length := by unfold newL newL0; rw [clr_len]; simp [allocL_len]
/-- A box for a memory that is answered, and the memory that came in, in their boxes. -/
structure RB (w W : World) (p : Option Addr) (n c : Nat) (top : Int) : Prop where
  z0 : W.cell? ⟨w.heap.size + 1, 0, none⟩ = some (.slice none 0 0)
  z1 : W.cell? ⟨w.heap.size + 1, 1, none⟩ = some (.int .i64 0)
  f0 : W.frozen? ⟨w.heap.size + 1, 0, none⟩ = false
  f1 : W.frozen? ⟨w.heap.size + 1, 1, none⟩ = false
  m0 : W.cell? ⟨w.heap.size, 0, none⟩ = some (.slice p n c)
  m1 : W.cell? ⟨w.heap.size, 1, none⟩ = some (.int .i64 top)
  sz : w.heap.size + 1 < W.heap.size
  bel : Below w.heap.size w W
theorem RB.new (w : World) (p : Option Addr) (n c : Nat) (top : Int) (T T' : TypeId) : RB w ((w.alloc (.cells #[.slice p n c, .int .i64 top] T)).alloc (.cells #[.slice none 0 0, .int .i64 0] T')) p n c top :=
  ⟨by simp, by simp, by simp, by simp, alloc_cell (by simp) _, alloc_cell (by simp) _, by simp, ((Below.refl _ _).alloc (Nat.le_refl _) _).alloc (by simp) _⟩
theorem RB.of {w W W' : World} {p : Option Addr} {n c : Nat} {top : Int} (h : RB w W p n c top) (hb : Below w.heap.size w W') (hx : ∀ X, X = w.heap.size ∨ X = w.heap.size + 1 → W'.heap[X]? = W.heap[X]?) (hs : w.heap.size + 1 < W'.heap.size) : RB w W' p n c top :=
  ⟨(World.cell?_of_block (a := ⟨w.heap.size + 1, 0, none⟩) (hx _ (.inr rfl))).trans h.z0, (World.cell?_of_block (a := ⟨w.heap.size + 1, 1, none⟩) (hx _ (.inr rfl))).trans h.z1,
   (World.frozen?_of_block (a := ⟨w.heap.size + 1, 0, none⟩) (hx _ (.inr rfl))).trans h.f0, (World.frozen?_of_block (a := ⟨w.heap.size + 1, 1, none⟩) (hx _ (.inr rfl))).trans h.f1,
   (World.cell?_of_block (a := ⟨w.heap.size, 0, none⟩) (hx _ (.inl rfl))).trans h.m0, (World.cell?_of_block (a := ⟨w.heap.size, 1, none⟩) (hx _ (.inl rfl))).trans h.m1, hs, hb⟩
theorem RB.keep {w W W' : World} {p : Option Addr} {n c : Nat} {top : Int} (h : RB w W p n c top) (hb : Below W.heap.size W W') : RB w W' p n c top :=
  h.of (h.bel.trans (hb.mono h.bel.size)) (fun X hX => hb.block X (by have := h.sz; omega)) (Nat.lt_of_lt_of_le h.sz hb.size)
theorem RB.set {w W : World} {p : Option Addr} {n c : Nat} {top : Int} (h : RB w W p n c top) (x y : Value) : Below w.heap.size w ((W.setCell ⟨w.heap.size + 1, 0, none⟩ x).setCell ⟨w.heap.size + 1, 1, none⟩ y) ∧
    (∀ X, X ≠ w.heap.size + 1 → ((W.setCell ⟨w.heap.size + 1, 0, none⟩ x).setCell ⟨w.heap.size + 1, 1, none⟩ y).heap[X]? = W.heap[X]?) := by
  refine ⟨(h.bel.setCell (Nat.le_succ _) _).setCell (Nat.le_succ _) _, fun X hX => ?_⟩
  exact (Below.heap_setCell _ _ _ _ (by simp; omega)).trans (Below.heap_setCell _ _ _ _ (by simp; omega))
set_option maxRecDepth 100000 in
set_option maxHeartbeats 4000000 in
theorem rnew_any (v : Value) (ws : List Int) (tn : Nat) (n : Int) (w : World) (hr : Rd w v ws) (h1 : 1 ≤ tn) (h2 : tn ≤ ws.length) (hl : ws.length ≤ 1048576) (hn : -9223372036854775808 ≤ n ∧ n ≤ 9223372036854775807) :
    Calls Try.prog 8 #[.agg #[v, .int .i64 tn], .int .i64 n] w (RNPost w v ws tn n) := by
  have HR := Lib.hid hr
  obtain ⟨p, c, rfl, hm⟩ := rd_form0 hr
  clear hr
  by_cases hbad : n < 0 ∨ 65536 < n
  · have HN := Lib.hid (new_one (len := ws.length) (tn := tn) hbad)
    go_enter Try.func8, Try.ntmps8
    go_upto_region 1 with fail
    generalize hW0 : World.alloc (World.alloc w _) _ = W0
    have HRB := Lib.hid (show RB w W0 p ws.length c tn by rw [← hW0]; exact RB.new _ _ _ _ _ _ _)
    obtain ⟨y0, y1, y2, y3, y4, y5, _, _⟩ := HRB.out
    have z2 := two_set (x0 := .slice p ws.length c) (x1 := .int .i64 (tn : Int)) y0 y1
    have HS := Lib.hid (HRB.out.set (.slice p ws.length c) (.int .i64 (tn : Int)))
    clear hW0
    by_cases h0 : n < 0
    · go_wp2_with fail
      refine bodyPost_ret (v := .tuple #[.agg #[.slice p ws.length c, .int .i64 (tn : Int)], .int .u64 0, .int .i64 1]) (by simp [results, Try.results8, go_sem, z2.1, z2.2]) rfl ?_
      obtain ⟨r1, r2, r3, r4⟩ := HN.out
      exact ⟨.slice p ws.length c, by rw [r1, r2, r3], by rw [r4 ws rfl]; exact HR.out.keep HS.out.1, HS.out.1, .inl rfl⟩
    · have h6 : 65536 < n := by omega
      go_wp2_with fail
      refine bodyPost_ret (v := .tuple #[.agg #[.slice p ws.length c, .int .i64 (tn : Int)], .int .u64 0, .int .i64 1]) (by simp [results, Try.results8, go_sem, z2.1, z2.2]) rfl ?_
      obtain ⟨r1, r2, r3, r4⟩ := HN.out
      exact ⟨.slice p ws.length c, by rw [r1, r2, r3], by rw [r4 ws rfl]; exact HR.out.keep HS.out.1, HS.out.1, .inl rfl⟩
  · obtain ⟨N, rfl⟩ : ∃ N : Nat, n = (N : Int) := ⟨n.toNat, by omega⟩
    have hN : N ≤ 65536 := by omega
    have d1 : decide ((N : Int) < 0) = false := by simp
    have d2 : decide ((65536 : Int) < (N : Int)) = false := by simp; omega
    have d3 : decide (65536 < N) = false := by simp; omega
    clear hbad
    go_enter Try.func8, Try.ntmps8
    go_upto_region 1 with fail
    generalize hW0 : World.alloc (World.alloc w _) _ = W0
    have HRB := Lib.hid (show RB w W0 p ws.length c tn by rw [← hW0]; exact RB.new _ _ _ _ _ _ _)
    clear hW0
    go_wp2_with fail
    go_loopw [7, 8] (fun lv s wr => ∃ k : Nat, s = .int .i64 k ∧ k ≤ N ∧ OW .u64 29 wr W0.heap.size lv (frmL k) ∧ Below W0.heap.size W0 wr) (fun _ s _ => N - (intOf s).toNat)
    case atStart =>
      refine ⟨0, by go_num, Nat.zero_le _, own_lit20 rfl rfl (by unfold maxLen; omega) (Nat.le_refl _), (Below.refl _ _).alloc (Nat.le_refl _) _⟩
    case round =>
      obtain ⟨k, rfl, hk, how, hbe⟩ := hrel
      have HOW := Lib.hid how
      have HBE := Lib.hid hbe
      have hle : (frmL k).length ≤ 65542 := by rw [frmL_len]; omega
      by_cases hlt : k < N
      · have hlz : (k : Int) < (N : Int) := Int.ofNat_lt.2 hlt
        have HFS := Lib.hid (frm_succ k)
        obtain ⟨pl, cl, rfl⟩ := ow_form how
        clear how hbe
        generalize frmL k = ys at *
        go_wp2_with (at_builtin; refine wpList_app (t := 22) (e := 29) (z := .int .u64 0) (bytes := 8) (base := W0.heap.size) (n := ys.length) (m := 1) (xs := ys.map (Value.int .u64)) (news := [.int .u64 14]) (v := .slice pl ys.length cl) (x := .slice (some ⟨wr.heap.size, 0, none⟩) 1 1) rfl (.tmp 25) (.tmp 26) rfl Try.underlying22 infoU64 rfl rfl (HOW.out.alloc _) rfl (src_one rfl) (by simp [Value.oneCell']) (by unfold maxLen; omega) (by omega) (by have := HBE.out.size; simp; omega) ?_; intro u' w2 hap; have HAP := Lib.hid hap; clear hap)
        go_roundw
        case rel => exact ⟨k + 1, by go_num, hlt, by rw [HFS.out]; exact own_apd HAP.out, (HBE.out.alloc HBE.out.size _).trans (HAP.out.below (by have := HBE.out.size; simp; omega) (fun g hg => (OW.lt HOW.out hg).1))⟩
        case measure => simp [intOf]; omega
      · obtain rfl : k = N := by omega
        have hlz : ¬ (k : Int) < (k : Int) := by omega
        have HRB2 := Lib.hid (HRB.out.keep hbe)
        obtain ⟨pl, cl, rfl⟩ := ow_form how
        obtain ⟨y0, y1, y2, y3, y4, y5, _, _⟩ := HRB2.out
        clear how hbe y0 y1 y2 y3
        obtain ⟨ys, hys⟩ : ∃ ys, frmL k = ys := ⟨_, rfl⟩
        rw [hys] at HOW hle ⊢
        have HYS := Lib.hid hys
        have HLN := Lib.hid (show ys.length = 6 + k by rw [← hys, frmL_len])
        clear hys
        go_wp2_with fail
        have HTV := Lib.hid (HOW.out.rd (by omega))
        have HNIL := Lib.hid (show Rd wr (.slice none 0 0) [] from .inl ⟨_, rfl, rfl⟩)
        by_cases hroom : tn + 8 + k ≤ ws.length
        · have HN := Lib.hid (new_zero hN hroom)
          have HNL := Lib.hid (newL_put ws tn k (by omega))
          refine (lay_good _ ws tn 19 _ ys _ [] wr (HR.out.keep HRB2.out.bel) HTV.out HNIL.out h1 h2 (by omega) (by omega) (by simp) (by rw [HLN.out]; simp; omega)).mono ?_
          rintro e w3 ⟨g, cap, rfl, hg, hcap, hrow, hb3⟩
          have HRB3 := Lib.hid (HRB2.out.keep hb3)
          have HROW := Lib.hid (show Row w3 g ws.length cap (fun i => (newL ws tn k).getD i 0) by rw [newL_lay ws tn k (by omega), HYS.out]; exact hrow)
          have hgl := hrow.lt
          obtain ⟨_, _, _, _, _, _, hs2, _⟩ := HRB2.out
          have hgw : w.heap.size + 1 < g := by omega
          obtain ⟨top, htop⟩ : ∃ x : Int, (tn : Int) + ((ys.length : Int) + (([] : List Int).length : Int) + 2) = x := ⟨_, rfl⟩
          rw [htop]
          have HTOP := Lib.hid (show top = ((tn + (8 + k) : Nat) : Int) by rw [← htop, HLN.out]; simp; omega)
          clear hrow hb3 hg htop y4 y5
          go_upto_region 9 with fail
          generalize hw4 : World.alloc w3 _ = w4
          have hb4 : Below w3.heap.size w3 w4 := by rw [← hw4]; exact (Below.refl _ _).alloc (Nat.le_refl _) _
          have k0 : w4.cell? ⟨w3.heap.size, 0, none⟩ = some (.slice (some ⟨g, 0, none⟩) ws.length cap) := by rw [← hw4]; simp
          have k1 : w4.cell? ⟨w3.heap.size, 1, none⟩ = some (.int .i64 top) := by rw [← hw4]; simp
          have HRB4 := Lib.hid (HRB3.out.keep hb4)
          have HROW4 := Lib.hid (HROW.out.block (hb4.block g hgl))
          obtain ⟨y0, y1, y2, y3, y4, y5, _, _⟩ := HRB4.out
          have z2 := two_set (x0 := .slice (some ⟨g, 0, none⟩) ws.length cap) (x1 := .int .i64 top) y0 y1
          have HS := Lib.hid (HRB4.out.set (.slice (some ⟨g, 0, none⟩) ws.length cap) (.int .i64 top))
          clear hw4 hb4
          go_wp2_with fail
          refine bodyPost_ret (v := .tuple #[.agg #[.slice (some ⟨g, 0, none⟩) ws.length cap, .int .i64 top], .int .u64 (4 * (tn : Int)), .int .i64 0]) (by simp [results, Try.results8, go_sem, z2.1, z2.2]) rfl ?_
          obtain ⟨r1, r2, r3, r4⟩ := HN.out
          exact ⟨.slice (some ⟨g, 0, none⟩) ws.length cap, by rw [r1, r2, r3, HTOP.out], by rw [r4 ws rfl]; exact row_rd (HROW4.out.block (HS.out.2 g (by omega))) hcap hm (newL_len _ _ _), HS.out.1, .inr ⟨g, _, _, rfl, by omega⟩⟩
        · have HN := Lib.hid (new_five hN hroom)
          refine (lay_full _ ws tn 19 _ ys _ [] wr (HR.out.keep HRB2.out.bel) HTV.out HNIL.out h1 h2 (by omega) (by omega) (by simp) (by rw [HLN.out]; simp; omega)).mono ?_
          rintro e w3 ⟨rfl, hb3⟩
          have HRB3 := Lib.hid (HRB2.out.keep hb3)
          clear hb3 y4 y5
          go_upto_region 9 with fail
          generalize hw4 : World.alloc w3 _ = w4
          have hb4 : Below w3.heap.size w3 w4 := by rw [← hw4]; exact (Below.refl _ _).alloc (Nat.le_refl _) _
          have k0 : w4.cell? ⟨w3.heap.size, 0, none⟩ = some (.slice p ws.length c) := by rw [← hw4]; simp
          have k1 : w4.cell? ⟨w3.heap.size, 1, none⟩ = some (.int .i64 tn) := by rw [← hw4]; simp
          have HRB4 := Lib.hid (HRB3.out.keep hb4)
          obtain ⟨y0, y1, y2, y3, y4, y5, _, _⟩ := HRB4.out
          have z2 := two_set (x0 := .slice p ws.length c) (x1 := .int .i64 (tn : Int)) y0 y1
          have HS := Lib.hid (HRB4.out.set (.slice p ws.length c) (.int .i64 (tn : Int)))
          clear hw4 hb4
          go_wp2_with fail
          refine bodyPost_ret (v := .tuple #[.agg #[.slice p ws.length c, .int .i64 (tn : Int)], .int .u64 0, .int .i64 5]) (by simp [results, Try.results8, go_sem, z2.1, z2.2]) rfl ?_
          obtain ⟨r1, r2, r3, r4⟩ := HN.out
          exact ⟨.slice p ws.length c, by rw [r1, r2, r3], by rw [r4 ws rfl]; exact HR.out.keep HS.out.1, HS.out.1, .inl rfl⟩
end
end Go.Proofs.Ytilonacjmihglaa
