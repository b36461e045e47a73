/- The contract of the document's own list of all objects: the addresses, and whether the memory is in form. The document's own list of all objects where the sizes or the first word of a memory are wrong. -/
import Derived.Test.YtilonacjmihglaaPRefAt
import Derived.Deep.RegionWith
import Derived.Deep.RegionHeld3
import Derived.Deep.DeepCutAuto
namespace Go.Proofs.Ytilonacjmihglaa
section
open Go.ChangeShapes Go.WideShapes Go.ChangeAt Go.RowKit
set_option linter.unusedVariables false
set_option linter.unusedSimpArgs false
def objList (ws : List Int) (top : Int) : List Nat := if memOk ws top then (scan (ws.take top.toNat) 1).getD [] else []
theorem infoI64 : (Try.prog.info? 3).map (fun i => (i.zero, i.size, i.bytes)) = some (some (.int .i64 0), 1, 8) := by kernel_rfl
theorem infoBool : (Try.prog.info? 4).map (fun i => (i.zero, i.size, i.bytes)) = some (some (.bool false), 1, 1) := by kernel_rfl
def natVals (l : List Nat) : List Value := l.map fun (n : Nat) => Value.int .i64 (n : Int)
def AllPost (W : World) (ws : List Int) (top : Int) (e : Ending) (w' : World) : Prop :=
  Below W.heap.size W w' ∧ ∃ u, e = .returned (.tuple #[u, .bool (memOk ws top)]) ∧ w'.ownsRow W.heap.size 3 1 u (objList ws top).length (natVals (objList ws top))
theorem AllPost.no {W w' : World} {ws : List Int} {top : Int} (h : memOk ws top = false) (hb : Below W.heap.size W w') : AllPost W ws top (.returned (.tuple #[.slice none 0 0, .bool false])) w' := by
  have e : objList ws top = [] := by unfold objList; rw [h]; rfl
  refine ⟨hb, .slice none 0 0, by rw [h], ?_⟩
  rw [e]
  exact World.ownsRow_nil _ _ _ _
theorem owns_lower {w : World} {B B' : Nat} {e : TypeId} {size : Nat} {v : Value} {n : Nat} {xs : List Value} (h : w.ownsRow B e size v n xs) (hB : B' ≤ B) : w.ownsRow B' e size v n xs := by
  obtain ⟨h1, h2⟩ := h
  refine ⟨h1, ?_⟩
  rcases h2 with h2 | ⟨g, cap, cur, hv, hg, r⟩
  · exact .inl h2
  · exact .inr ⟨g, cap, cur, hv, Nat.le_trans hB hg, r⟩
theorem AllPost.yes {W w' : World} {ws : List Int} {n : Nat} {l : List Nat} {u : Value} (hm : memOk ws n = true) (hs : scan (ws.take n) 1 = some l) (hb : Below W.heap.size W w') (ho : w'.ownsRow (W.heap.size + 2) 3 1 u l.length (natVals l)) :
    AllPost W ws n (.returned (.tuple #[u, .bool true])) w' := by
  have e : objList ws n = l := by unfold objList; rw [hm, Int.toNat_natCast, hs]; rfl
  refine ⟨hb, u, by rw [hm], ?_⟩
  rw [e]
  exact owns_lower ho (by omega)
theorem drop_zero_of {ws : List Int} {n : Nat} (h : ∀ i, n ≤ i → i < ws.length → ws.getD i 0 = 0) : (ws.drop n).all (· == 0) = true := by
  rw [List.all_eq_true]
  intro x hx
  obtain ⟨i, hi, rfl⟩ := List.getElem_of_mem hx
  rw [List.length_drop] at hi
  have := h (n + i) (by omega) (by omega)
  rw [List.getElem_drop]
  simpa [List.getD_eq_getElem?_getD, List.getElem?_eq_getElem (by omega : n + i < ws.length)] using this
theorem drop_not_zero {ws : List Int} {n i : Nat} (h1 : n ≤ i) (h2 : i < ws.length) (h : ws.getD i 0 ≠ 0) : (ws.drop n).all (· == 0) = false := by
  refine all_false_of _ _ (i - n) (by rw [List.length_drop]; omega) ?_
  rw [getD_drop, show n + (i - n) = i by omega]
  simpa using h
/-- The state of the loop over the objects. -/
structure AS (w : World) (mv : Value) (vs : List Int) (n k : Nat) (done : List Nat) (lv : Value) (wr : World) : Prop where
  up : Upto vs k done
  le : k ≤ n
  box0 : wr.cell? ⟨w.heap.size, 0, none⟩ = some mv
  box1 : wr.cell? ⟨w.heap.size, 1, none⟩ = some (.int .i64 n)
  row : wr.rowIs (w.heap.size + 1) 4 n (fun i => .bool (decide (i ∈ done)))
  own : wr.ownsRow (w.heap.size + 2) 3 1 lv done.length (natVals done)
  below : Below w.heap.size w wr
  len : done.length ≤ k
theorem AS.keep {w : World} {mv : Value} {vs : List Int} {n k : Nat} {done : List Nat} {lv : Value} {wr w1 : World} (h : AS w mv vs n k done lv wr) (hb : Below wr.heap.size wr w1) : AS w mv vs n k done lv w1 :=
  ⟨h.up, h.le, below_cell hb h.box0, below_cell hb h.box1, h.row.of_block (hb.block _ h.row.lt), h.own.kept (row := none) ⟨hb.os, hb.tape, hb.output, hb.size, fun k hk _ => hb.block k hk⟩ (by cases lv.ownBlock <;> simp), h.below.trans (hb.mono h.below.size), h.len⟩
theorem AS.drewN {w : World} {mv : Value} {vs : List Int} {n k : Nat} {done : List Nat} {lv : Value} {wr : World} (h : AS w mv vs n k done lv wr) (q : Nat) : AS w mv vs n k done lv (wr.drewN q) :=
  ⟨h.up, h.le, h.box0, h.box1, h.row, h.own, below_drewN h.below q, h.len⟩
theorem AS.own2 {w : World} {mv : Value} {vs : List Int} {n k : Nat} {done : List Nat} {lv : Value} {w1 : World} (h : AS w mv vs n k done lv w1) (O : Obj) (q : Nat) (u : Value) :
    (((w1.alloc O).drewN q).setCell ⟨w.heap.size + 1, k, none⟩ u).ownsRow (w.heap.size + 2) 3 1 lv done.length (natVals done) :=
  ownsRow_setCell_below (w := (w1.alloc O).drewN q) (h.own.alloc O) (by simp) u
theorem grown_cell {w w' : World} {row : Option Nat} (hg : w.grownBy w' row) {a : Addr} {v : Value} (h : w.cell? a = some v) (hne : some a.block ≠ row) : w'.cell? a = some v := hg.cell h hne
theorem set_cell {w : World} {a p : Addr} {u v : Value} (h : w.cell? a = some v) (hne : a.block ≠ p.block) : (w.setCell p u).cell? a = some v := by
  rw [← h]; exact World.cell?_of_block (Below.heap_setCell _ _ _ _ hne)
theorem bcell {W w1 : World} (hb : Below W.heap.size W w1) : (∀ b o, b < W.heap.size → w1.cell? ⟨b, o, none⟩ = W.cell? ⟨b, o, none⟩) ∧ (∀ b o, b < W.heap.size → w1.frozen? ⟨b, o, none⟩ = W.frozen? ⟨b, o, none⟩) :=
  ⟨fun b o h => hb.cell (p := ⟨b, o, none⟩) h, fun b o h => hb.frozen (p := ⟨b, o, none⟩) h⟩
theorem three_set {w : World} {B : Nat} {x0 x1 x2 y : Value} (h : w.cell? ⟨B, 1, none⟩ = some y) : (((w.setCell ⟨B, 0, none⟩ x0).setCell ⟨B, 1, none⟩ x1).setCell ⟨B, 2, none⟩ x2).cell? ⟨B, 1, none⟩ = some x1 := by
  have n0 : (⟨B, 0, none⟩ : Addr) ≠ ⟨B, 1, none⟩ := by simp
  have n2 : (⟨B, 2, none⟩ : Addr) ≠ ⟨B, 1, none⟩ := by simp
  have h0 : (w.setCell ⟨B, 0, none⟩ x0).cell? ⟨B, 1, none⟩ = some y := (World.cell?_setCell_other _ _ _ _ n0).trans h
  exact (World.cell?_setCell_other _ _ _ _ n2).trans (World.cell?_setCell_same _ _ _ h0)
theorem one_new (w : World) (x : Value) (t : TypeId) : ∀ j u, [x][j]? = some u → (w.alloc (.cells #[x] t)).cell? ((⟨w.heap.size, 0, none⟩ : Addr).add j) = some u := by
  intro j u hj
  match j with
  | 0 => simp at hj; subst hj; simp [Addr.add]
  | j + 1 => simp at hj
theorem AS.next {w : World} {mv : Value} {vs : List Int} {n k : Nat} {done : List Nat} {lv : Value} {w1 : World} (h : AS w mv vs n k done lv w1) (hk : k < vs.length) (hn : vs.length = n) (ho : okAt vs k = true) (O O2 : Obj) (q : Nat)
    (v' : Value) (w3 : World) (hown : w3.ownsRow (w.heap.size + 2) 3 1 v' (done.length + 1) (natVals done ++ [.int .i64 (k : Int)]))
    (hg : ((((w1.alloc O).drewN q).setCell ⟨w.heap.size + 1, k, none⟩ (.bool true)).alloc O2).grownBy w3 lv.ownBlock) : AS w mv vs n (k + sz vs k) (done ++ [k]) v' w3 := by
  have hlt := h.own.lt
  have hne : ∀ x, x < w.heap.size + 2 → some x ≠ lv.ownBlock := fun x hx e => by have := hlt x e.symm; omega
  refine ⟨h.up.step hk ho, by rw [← hn]; exact (okAt_sz ho).2.2.1, ?_, ?_, ?_, ?_, ?_, ?_⟩
  · exact grown_cell hg (alloc_cell (set_cell (w := (w1.alloc O).drewN q) (alloc_cell h.box0 O) (by simp)) O2) (hne _ (by simp))
  · exact grown_cell hg (alloc_cell (set_cell (w := (w1.alloc O).drewN q) (alloc_cell h.box1 O) (by simp)) O2) (hne _ (by simp))
  · have r1 : (((w1.alloc O).drewN q).setCell ⟨w.heap.size + 1, k, none⟩ (.bool true)).rowIs (w.heap.size + 1) 4 n _ := (show ((w1.alloc O).drewN q).rowIs (w.heap.size + 1) 4 n _ from h.row.alloc O).set k (.bool true)
    have r2 := r1.alloc O2
    refine (r2.of_block (hg.block _ r2.lt (hne _ (by simp)))).congr fun i hi => ?_
    by_cases e : i = k <;> simp [e]
  · simpa [natVals] using hown
  · have b1 : Below w.heap.size w ((((w1.alloc O).drewN q).setCell ⟨w.heap.size + 1, k, none⟩ (.bool true)).alloc O2) :=
      (((below_drewN (h.below.alloc h.below.size O) q).setCell (by simp) _).alloc (by have := h.below.size; simp; omega) O2)
    exact b1.grown hg (by have := b1.size; omega) (fun x hx => by have := hlt x hx; omega)
  · rw [List.length_append]; have := h.len; have := (okAt_sz ho).2.1; simp; omega
set_option maxRecDepth 100000 in
set_option maxHeartbeats 4000000 in
theorem refall_yes (v : Value) (ws : List Int) (top : Int) (w : World) (hr : Rd w v ws) (hf : Fit ws) (hyes : sizesOk ws top = true) :
    Calls Try.prog 20 #[.agg #[v, .int .i64 top]] w (AllPost w ws top) := by
  have hm : memOk ws top = ((ws.drop top.toNat).all (· == 0) && shapeOk (ws.take top.toNat)) := by simp only [memOk, hyes, Bool.true_and]
  have HM := Lib.hid hm
  clear hm
  simp only [sizesOk, decide_eq_true_eq] at hyes
  obtain ⟨g1, g2, g3, g4, g5⟩ := hyes
  obtain ⟨n, rfl⟩ := Int.eq_ofNat_of_zero_le (by omega : 0 ≤ top)
  rw [Int.toNat_natCast] at HM
  have g6 : 1 ≤ n := by omega
  have g7 : n ≤ ws.length := by omega
  clear g3 g4
  obtain ⟨b, off, c, rfl, hl, hc, hcell⟩ := hr.some (by omega)
  have HR := Lib.hid hr
  have hc0 := fun o => alloc_cell (hcell 0 (by omega)) o
  rw [Nat.add_zero, g5] at hc0
  have j0 : 0 < ws.length := by omega
  have Hcl : Hid (∀ i, i < ws.length → ∀ wx : World, Below w.heap.size w wx → wx.cell? ⟨b, off + i, none⟩ = some (.int .u64 (ws.getD i 0))) := fun i hi wx hx => below_cell hx (hcell i hi)
  have Hat : Hid (∀ i, i < ws.length → ∀ o, (w.alloc o).cell? ⟨b, off + i, none⟩ = some (.int .u64 (ws.getD i 0))) := fun i hi o => alloc_cell (hcell i hi) o
  clear hcell hr g5
  go_enter Try.func20, Try.ntmps20
  go_wp2_with fail
  go_loop [4] (fun s => ∃ j : Nat, s = .int .i64 j ∧ n ≤ j ∧ j ≤ ws.length ∧ ∀ i, n ≤ i → i < j → ws.getD i 0 = 0) (fun s => ws.length - (intOf s).toNat)
  case atStart => exact ⟨n, rfl, Nat.le_refl _, g7, fun i h1 h2 => by omega⟩
  case round =>
    obtain ⟨j, rfl, hj1, hj2, hz0⟩ := hrel
    have HZ := Lib.hid hz0
    clear hz0
    by_cases hlt : j < ws.length
    · have hcj := Hat.out j hlt
      obtain ⟨x, e⟩ : ∃ x, x = ws.getD j 0 := ⟨_, rfl⟩
      rw [← e] at hcj
      have E := Lib.hid e
      clear e hc0
      by_cases hx0 : x = 0
      · have hx1 : (x != 0) = false := by simpa using hx0
        have hx2 := Lib.hid hx0
        clear hx0
        go_wp2_with fail
        go_round
        case rel => exact ⟨j + 1, by go_num, by omega, by omega, fun i h1 h2 => by
          rcases Nat.lt_or_ge i j with h | h
          · exact HZ.out i h1 h
          · obtain rfl : i = j := by omega
            rw [← E.out, hx2.out]⟩
        case measure => simp [intOf]; omega
      · have hx1 : (x != 0) = true := by simpa using hx0
        have hno : Hid (memOk ws n = false) := by
          unfold Hid; rw [HM.out, drop_not_zero hj1 hlt (by rw [← E.out]; exact hx0), Bool.false_and]
        clear hx0
        go_wp2_with fail
        go_ret2
        exact AllPost.no hno.out ((Below.refl _ _).alloc (Nat.le_refl _) _)
    · have HD : Hid ((ws.drop n).all (· == 0) = true) := drop_zero_of fun i h1 h2 => HZ.out i h1 (by omega)
      clear HZ hc0
      have hmk := run_make_row' (P := Try.prog) 86 4 (.bool false) 1 Try.underlying86 infoBool rfl .i64 .i64 n (by omega) (by omega)
      obtain ⟨i0, hi, hz0, hz1, hz2⟩ := info_parts infoI64
      go_wp2_with fail
      clear hmk
      have hft := hf.take n
      have hvl : (ws.take n).length = n := by rw [List.length_take]; omega
      have Hvs : Hid (∀ i, i < n → (ws.take n).getD i 0 = ws.getD i 0) := fun i hi => by rw [getD_take, if_pos hi]
      have HFT := Lib.hid hft
      have HVL := Lib.hid hvl
      clear hft hvl
      generalize hvs : ws.take n = vs at *
      have HVS := Lib.hid hvs
      clear hvs
      go_loopw [5, 7] (fun lv s wr => ∃ k done, s = .int .i64 (k : Nat) ∧ AS w (.slice (some ⟨b, off, none⟩) ws.length c) vs n k done lv wr) (fun _ s _ => n - (intOf s).toNat)
      case atStart => exact ⟨1, [], by go_num, ⟨Upto.start _, g6, by simp, by simp, by
          have := World.rowIs_made (w.alloc (Obj.cells #[Value.slice (some ⟨b, off, none⟩) ws.length c, Value.int IntKind.i64 n] 24)) (.bool false) n 4
          simpa using this, World.ownsRow_nil _ _ _ _, ((Below.refl _ _).alloc (Nat.le_refl _) _).alloc (by simp) _, by simp⟩⟩
      case round =>
        obtain ⟨k, done, rfl, hS⟩ := hrel
        have k1 := hS.up.2
        have kl := hS.le
        have hbx0 := hS.box0
        have hbx1 := hS.box1
        by_cases hlt : k < n
        · go_wp2_with fail
          have hcall := refat_any (.slice (some ⟨b, off, none⟩) ws.length c) ws n k _ (HR.out.keep hS.below) hf (by omega) ⟨by omega, by omega⟩
          rw [Int.toNat_natCast, HVS.out] at hcall
          refine hcall.mono ?_
          clear hcall
          rintro e w1 ⟨rfl, hb1⟩
          have hS1 := hS.keep hb1
          clear hbx0 hbx1 hS hb1
          have hbx0 := fun o => alloc_cell hS1.box0 o
          have hbx1 := fun o => alloc_cell hS1.box1 o
          unfold objAt obj
          have hh : 0 ≤ headAt vs k ∧ headAt vs k ≤ 18446744073709551615 := by unfold headAt; split; exact HFT.out.at _; omega
          have q1 := hK_lo (headAt vs k)
          have q2 := hT_lo (headAt vs k)
          have q3 := hS_lo (headAt vs k)
          cases hth : there vs k
          · have hno : Hid (memOk ws n = false) := by
              unfold Hid; rw [HM.out, HD.out, Bool.true_and]
              unfold shapeOk; rw [hS1.up.bad (by rw [HVL.out]; exact hlt) (by simp [okAt, hth])]
            go_wp2_with fail
            go_quiet (fail)
            go_wp2_with fail
            go_ret2
            exact AllPost.no hno.out (below_drewN (hS1.below.alloc hS1.below.size _) _)
          · have hin : k + 2 ≤ n := by
              simp only [there, decide_eq_true_eq, HVL.out] at hth
              omega
            have hhd : headAt vs k = ws.getD k 0 := by
              unfold headAt; rw [HVL.out, if_pos ⟨by omega, by omega⟩, Int.toNat_natCast]; exact Hvs.out k hlt
            have hca : ∀ o, (w1.alloc o).cell? ⟨b, off + k, none⟩ = some (.int .u64 (headAt vs k)) := fun o => by
              rw [hhd]; exact Hcl.out k (by omega) _ (hS1.below.alloc hS1.below.size _)
            have hcb : ∀ o, (w1.alloc o).cell? ⟨b, off + (k + 1), none⟩ = some (.int .u64 (ws.getD (k + 1) 0)) := fun o => Hcl.out (k + 1) (by omega) _ (hS1.below.alloc hS1.below.size _)
            clear hhd
            by_cases hp : headAt vs k < 72057594037927936
            · have hpp : (headAt vs k != hK (headAt vs k) + 256 * hT (headAt vs k) + 4294967296 * hS (headAt vs k)) = false := by
                rw [bne_eq_false_iff_eq]; unfold hK hT hS; omega
              have HVk := Lib.hid (Hvs.out (k + 1) (by omega))
              generalize hz1 : ws.getD (k + 1) 0 = z at *
              have HZ1 := Lib.hid hz1
              clear hz1
              by_cases hz : z = 0
              · have hzz : (z != 0) = false := by simpa using hz
                have Hzz := Lib.hid hz
                have hok : Hid (okAt vs k = true) := by
                  unfold Hid okAt; rw [hth, HVk.out, hz]; simpa using hp
                have hrc : ∀ o, (w1.alloc o).cell? ⟨w.heap.size + 1, k, none⟩ = some (.bool (decide (k ∈ done))) := fun o => (hS1.row.alloc o).cell hlt
                have hrf : ∀ o, (w1.alloc o).frozen? ⟨w.heap.size + 1, k, none⟩ = false := fun o => (hS1.row.alloc o).frozen k
                have hsz1 : w.heap.size + 1 < w1.heap.size := hS1.row.lt
                generalize decide (k ∈ done) = dk at hrc
                have Hrow := Lib.hid hS1.row
                clear hz
                go_wp2_with fail
                go_quiet (fail)
                have hlen := hS1.len
                go_wp2_with (at_builtin; refine wpList_append_own _ rfl _ _ 52 rfl (w.heap.size + 2) 3 i0 (.int .i64 0) 1 8 Try.underlying52 hi hz0 hz1 hz2 rfl (by decide) _ _ _ rfl ((hS1.own2 _ nq (.bool true)).alloc _) ⟨w1.heap.size + 1, 0, none⟩ 1 1 [.int .i64 (k : Int)] rfl rfl ?c1 ?c2 ?c3 ?c4 ?c5 ?_)
                case c1 =>
                  have h1 := one_new (((w1.alloc (Obj.cells #[Value.int .i64 (hK (headAt vs k)), Value.int .i64 (hT (headAt vs k)), Value.int .i64 (hS (headAt vs k))] 88)).drewN nq).setCell ⟨w.heap.size + 1, k, none⟩ (.bool true)) (.int .i64 (k : Int)) 3
                  have e1 : ((((w1.alloc (Obj.cells #[Value.int .i64 (hK (headAt vs k)), Value.int .i64 (hT (headAt vs k)), Value.int .i64 (hS (headAt vs k))] 88)).drewN nq).setCell ⟨w.heap.size + 1, k, none⟩ (.bool true))).heap.size = w1.heap.size + 1 := by simp
                  rw [e1] at h1
                  exact h1
                case c2 => simp [Value.oneCell']
                case c3 => unfold maxLen; omega
                case c4 => omega
                case c5 => simp; omega
                intro v' w3 hown' hgrow _
                have hN := hS1.next (by rw [HVL.out]; exact hlt) HVL.out hok.out _ _ nq v' w3 hown' hgrow
                have hlto := hS1.own.lt
                have ho2 : w3.cell? ⟨w1.heap.size, 2, none⟩ = some (.int .i64 (hS (headAt vs k))) :=
                  grown_cell hgrow (alloc_cell (set_cell (w := (w1.alloc _).drewN nq) (by simp) (by simp; omega)) _) (fun e => by have := hlto _ e.symm; simp at this)
                have HN := Lib.hid hN
                have hsz := okAt_sz hok.out
                rw [HVL.out] at hsz
                have HS := Lib.hid hsz.2.2.2.1
                have hs1 := hsz.2.1
                have hs2 := hsz.2.2.1
                clear hN hown' hgrow hlto hsz hrc hrf hbx0 hbx1 hca hcb
                go_wp2_with fail
                go_roundw
                case rel => exact ⟨k + sz vs k, done ++ [k], by rw [← HS.out]; go_num, HN.out⟩
                case measure => rw [← HS.out]; simp [intOf]; omega
              · have hzz : (z != 0) = true := by simpa using hz
                have hno : Hid (memOk ws n = false) := by
                  unfold Hid; rw [HM.out, HD.out, Bool.true_and]
                  unfold shapeOk; rw [hS1.up.bad (by rw [HVL.out]; exact hlt) (by rw [okAt, HVk.out, decide_eq_false hz, Bool.and_false, Bool.and_false])]
                clear hz
                go_wp2_with fail
                go_quiet (fail)
                go_wp2_with fail
                go_ret2
                exact AllPost.no hno.out (below_drewN (hS1.below.alloc hS1.below.size _) _)
            · have hpp : (headAt vs k != hK (headAt vs k) + 256 * hT (headAt vs k) + 4294967296 * hS (headAt vs k)) = true := by
                rw [bne_iff_ne]; unfold hK hT hS; omega
              have hno : Hid (memOk ws n = false) := by
                unfold Hid; rw [HM.out, HD.out, Bool.true_and]
                unfold shapeOk; rw [hS1.up.bad (by rw [HVL.out]; exact hlt) (by simp [okAt, hp])]
              go_wp2_with fail
              go_quiet (fail)
              go_wp2_with fail
              go_ret2
              exact AllPost.no hno.out (below_drewN (hS1.below.alloc hS1.below.size _) _)
        · have hsc := hS.up.full (by rw [HVL.out]; omega)
          have HSC := Lib.hid hsc
          clear hsc
          go_wp2_with fail
          go_loopw [10] (fun s wr => ∃ m : Nat, s = .int .i64 m ∧ m ≤ done.length ∧ AS w (.slice (some ⟨b, off, none⟩) ws.length c) vs n k done u5 wr ∧ (((done.take m).all fun a => (tags vs a).all (rightW done)) = true)) (fun s _ => done.length - (intOf s).toNat)
          case atStart => exact ⟨0, by go_num, Nat.zero_le _, hS, rfl⟩
          case round =>
            clear hS hbx0 hbx1
            obtain ⟨m, rfl, hm, hS, hall0⟩ := hrel
            have Hall := Lib.hid hall0
            clear hall0
            have hbx0 := hS.box0
            have hbx1 := hS.box1
            have hown := hS.own
            have hdl := hS.len
            rcases hown.2 with ⟨rfl, h0⟩ | ⟨gl, capl, cur, rfl, hbg, hgg, hnc, hcm, hcs, htake⟩
            · have hno : Hid (done = []) := List.length_eq_zero_iff.1 h0
              obtain rfl : m = 0 := by omega
              have hyes : Hid (memOk ws n = true) := by
                unfold Hid; rw [HM.out, HD.out, Bool.true_and]; unfold shapeOk; rw [HSC.out, hno.out]; rfl
              have hlen0 : ((done.length : Nat) : Int) = 0 := by omega
              go_wp2_with fail
              go_ret2
              exact AllPost.yes hyes.out (by rw [HVS.out]; exact HSC.out) hS.below hS.own
            · by_cases hmd : m < done.length
              · obtain ⟨x, hx⟩ : ∃ x, done[m]? = some x := ⟨_, List.getElem?_eq_getElem hmd⟩
                have hcx : wr.cell? ⟨gl, m, none⟩ = some (.int .i64 (x : Int)) := by
                  rw [hown.cellAt m (by omega)]; simp [natVals, hx]
                have hxin : x ∈ done := List.mem_of_getElem? hx
                have hxn := scan_lt HSC.out x hxin
                rw [HVL.out] at hxn
                have hcallAt : Hid (∀ wx : World, Below w.heap.size w wx → Calls Try.prog 45 #[.agg #[.slice (some ⟨b, off, none⟩) ws.length c, .int .i64 n], .int .i64 (x : Int)] wx fun e w' => e = .returned (.tuple #[objAt vs x, .bool (there vs x)]) ∧ Below wx.heap.size wx w') := fun wx hx => by
                  have hcall := refat_any (.slice (some ⟨b, off, none⟩) ws.length c) ws n x _ (HR.out.keep hx) hf (by omega) ⟨by omega, by omega⟩
                  rw [Int.toNat_natCast, HVS.out] at hcall
                  exact hcall
                have HX := Lib.hid hx
                clear hx hcs htake hgg
                go_wp2_with fail
                go_cut [11] (fun s wx => ∃ bx, s = .pointer (some ⟨bx, 0, none⟩) ∧ AS w (.slice (some ⟨b, off, none⟩) ws.length c) vs n k done (.slice (some ⟨gl, 0, none⟩) done.length capl) wx ∧ wx.cell? ⟨bx, 1, none⟩ = some (.int .i64 (hT (headAt vs x))))
                case first =>
                  have hSb := hS.below
                  have hSz := hSb.size
                  have n1 := World.new_ne wr _ hbx0
                  have n2 := World.new_ne wr _ hbx1
                  have n3 := World.new_ne wr _ hcx
                  have n4 : w.heap.size + 1 < wr.heap.size := hS.row.lt
                  have n5 : gl < wr.heap.size := World.block_lt_of_cell? wr _ hcx
                  go_region_held3 (fun w' => w'.cell? ⟨w.heap.size, 0, none⟩ = some (Value.slice (some ⟨b, off, none⟩) ws.length c) ∧ w'.cell? ⟨w.heap.size, 1, none⟩ = some (.int .i64 n) ∧ w'.cell? ⟨gl, m, none⟩ = some (.int .i64 x))
                    (first | go_keep | (refine ⟨?_, ?_, ?_⟩ <;> (first | exact below_cell hb1 hbx0 | exact alloc_cell (below_cell hb1 hbx0) _ | exact below_cell hb1 (alloc_cell hbx0 _) | exact set_cell (below_cell hb1 (alloc_cell hbx0 _)) (by simp; omega) | exact below_cell hb1 hbx1 | exact alloc_cell (below_cell hb1 hbx1) _ | exact below_cell hb1 (alloc_cell hbx1 _) | exact set_cell (below_cell hb1 (alloc_cell hbx1 _)) (by simp; omega) | exact below_cell hb1 hcx | exact alloc_cell (below_cell hb1 hcx) _ | exact below_cell hb1 (alloc_cell hcx _) | exact set_cell (below_cell hb1 (alloc_cell hcx _)) (by simp; omega))))
                    ((go_at_call 45; refine (hcallAt.out _ (by first | exact hSb | exact hSb.drew | exact (hSb.alloc hSz _) | exact (hSb.alloc hSz _).drew)).mono ?_; rintro e w1 ⟨rfl, hb1⟩; unfold objAt obj; obtain ⟨hc1, hf1⟩ := bcell hb1; have hz1 := hb1.size))
                  all_goals go_wp2_with fail
                  all_goals go_meet
                  · refine ⟨w1.heap.size, rfl, (hS.keep (show Below wr.heap.size wr w1 from ⟨hb1.os, hb1.tape, hb1.output, hb1.size, hb1.block⟩)).keep ((Below.refl _ _).alloc (Nat.le_refl _) _), by simp⟩
                  · have q0 : Below wr.heap.size wr w1 := ((Below.refl wr.heap.size wr).alloc (Nat.le_refl _) (Obj.cells #[Value.int .i64 0, Value.int .i64 0, Value.int .i64 0] 88)).trans ((show Below (wr.alloc (Obj.cells #[Value.int .i64 0, Value.int .i64 0, Value.int .i64 0] 88)).heap.size (wr.alloc (Obj.cells #[Value.int .i64 0, Value.int .i64 0, Value.int .i64 0] 88)) w1 from ⟨hb1.os, hb1.tape, hb1.output, hb1.size, hb1.block⟩).mono (by simp))
                    refine ⟨wr.heap.size, rfl, hS.keep (((q0.setCell (by simp) _).setCell (by simp) _).setCell (by simp) _), three_set (y := .int .i64 0) ?_⟩
                    exact below_cell (W := wr.alloc (Obj.cells #[Value.int .i64 0, Value.int .i64 0, Value.int .i64 0] 88)) ⟨hb1.os, hb1.tape, hb1.output, hb1.size, hb1.block⟩ (by simp)
                case rest =>
                  obtain ⟨bx, rfl, hSc, htc⟩ := hcut
                  clear hS hbx0 hbx1 hown hcx
                  have q2 := hT_lo (headAt vs x)
                  have hst := scan_mem_ok HSC.out x hxin
                  have hszx := okAt_sz hst
                  rw [HVL.out] at hszx
                  have HSZ := Lib.hid hszx
                  obtain ⟨T, hT⟩ := Int.eq_ofNat_of_zero_le q2.1
                  have hTn : x + 2 + T ≤ n := by have a1 := hszx.2.2.2.1; have a2 := hszx.2.2.2.2; have a3 := hszx.2.2.1; omega
                  rw [hT] at htc
                  have HT := Lib.hid hT
                  clear hst hszx hT q2
                  go_wp2_with fail
                  go_loopw [13] (fun s wx => ∃ p q : Nat, s = .int .i64 p ∧ p ≤ T ∧ wx = wc.drewN q ∧ ((tags vs x).take p).all (rightW done) = true) (fun s _ => T - (intOf s).toNat)
                  case atStart => exact ⟨0, 0, by go_num, Nat.zero_le _, rfl, rfl⟩
                  case round =>
                    obtain ⟨p, q, rfl, hp, rfl, hpa⟩ := hrel
                    have HPA := Lib.hid hpa
                    clear hpa
                    have htl : (tags vs x).length = T := by unfold tags; rw [List.length_take, List.length_drop, HT.out, HVL.out]; simp; omega
                    have HTL := Lib.hid htl
                    clear htl
                    by_cases hpT : p < T
                    · obtain ⟨y, hy⟩ : ∃ y, y = (tags vs x).getD p 0 := ⟨_, rfl⟩
                      have hy2 : y = ws.getD (x + 2 + p) 0 := by
                        rw [hy]; unfold tags; rw [getD_take, HT.out, if_pos (by simp; omega), getD_drop]; exact Hvs.out _ (by omega)
                      have hyf : 0 ≤ y ∧ y ≤ 18446744073709551615 := by rw [hy2]; exact hf.at _
                      have hcy : wc.cell? ⟨b, off + (x + 2 + p), none⟩ = some (.int .u64 y) := by rw [hy2]; exact Hcl.out _ (by omega) _ hSc.below
                      have hcl : wc.cell? ⟨gl, m, none⟩ = some (.int .i64 (x : Int)) := by
                        rw [hSc.own.cellAt m (by omega)]; simp [natVals, HX.out]
                      have HY := Lib.hid hy
                      have hbx0 := hSc.box0
                      have hbx1 := hSc.box1
                      have kb := kind_lo y
                      clear hy hy2
                      rcases (by omega : kindOf y = 3 ∨ kindOf y = 0 ∨ (kindOf y = 1 ∨ kindOf y = 2)) with hk3 | hk0 | hk12
                      · have hno : Hid (memOk ws n = false) := by
                          unfold Hid; rw [HM.out, HD.out, Bool.true_and]; unfold shapeOk; rw [HSC.out]
                          simp only [wordsOk, List.all_eq_false]
                          exact ⟨x, hxin, by rw [all_false_of _ _ p (by rw [HTL.out]; exact hpT) (by rw [← HY.out]; simp [rightW, hk3])]; simp⟩
                        go_wp2_with fail
                        go_quiet (fail)
                        go_wp2_with fail
                        refine (kind_ref _ (wfu_mk hyf) _).mono ?_
                        rintro e w2 ⟨rfl, rfl⟩
                        go_wp2_with fail
                        go_ret2
                        exact AllPost.no hno.out (below_drewN hSc.below _)
                      · obtain ⟨p1, p2, p3, p4, p5⟩ := one_addr y hk0
                        have hat : atV y = y / 4 := by unfold atV; rw [if_pos hk0]
                        rw [hat] at p4 p5
                        clear p1 p2 p3
                        by_cases hin : y / 4 < (n : Int)
                        · obtain ⟨a, ha⟩ := Int.eq_ofNat_of_zero_le p4
                          have hrc : wc.cell? ⟨w.heap.size + 1, a, none⟩ = some (.bool (decide (a ∈ done))) := hSc.row.cell (by omega)
                          have hmx : (y / 4).toNat = a := by omega
                          by_cases hmem : a ∈ done
                          · rw [decide_eq_true hmem] at hrc
                            have hyes : Hid (((tags vs x).take (p + 1)).all (rightW done) = true) := by
                              unfold Hid; rw [all_take_succ _ _ _ (by rw [HTL.out]; exact hpT), HPA.out, ← HY.out]; simp [rightW, hk0, hmx, hmem]
                            clear hmx
                            go_wp2_with fail
                            go_quiet (fail)
                            go_wp2_with fail
                            refine (kind_ref _ (wfu_mk hyf) _).mono ?_
                            rintro e w2 ⟨rfl, rfl⟩
                            go_wp2_with fail
                            refine (at_ref _ (wfu_mk hyf) _).mono ?_
                            rintro e w2 ⟨rfl, rfl⟩
                            go_wp2_with fail
                            go_roundw
                            case rel => exact ⟨p + 1, _, by go_num, by omega, rfl, hyes.out⟩
                            case measure => simp [intOf]; omega
                          · rw [decide_eq_false hmem] at hrc
                            have hno : Hid (memOk ws n = false) := by
                              unfold Hid; rw [HM.out, HD.out, Bool.true_and]; unfold shapeOk; rw [HSC.out]
                              simp only [wordsOk, List.all_eq_false]
                              exact ⟨x, hxin, by rw [all_false_of _ _ p (by rw [HTL.out]; exact hpT) (by rw [← HY.out]; simp [rightW, hk0, hmx, hmem])]; simp⟩
                            clear hmx
                            go_wp2_with fail
                            go_quiet (fail)
                            go_wp2_with fail
                            refine (kind_ref _ (wfu_mk hyf) _).mono ?_
                            rintro e w2 ⟨rfl, rfl⟩
                            go_wp2_with fail
                            refine (at_ref _ (wfu_mk hyf) _).mono ?_
                            rintro e w2 ⟨rfl, rfl⟩
                            go_wp2_with fail
                            go_ret2
                            exact AllPost.no hno.out (below_drewN hSc.below _)
                        · have hno : Hid (memOk ws n = false) := by
                            unfold Hid; rw [HM.out, HD.out, Bool.true_and]; unfold shapeOk; rw [HSC.out]
                            simp only [wordsOk, List.all_eq_false]
                            refine ⟨x, hxin, ?_⟩
                            rw [all_false_of _ _ p (by rw [HTL.out]; exact hpT)]
                            · simp
                            · rw [← HY.out]; simp [rightW, hk0]; intro hm2; have := scan_lt HSC.out _ hm2; rw [HVL.out] at this; omega
                          go_wp2_with fail
                          go_quiet (fail)
                          go_wp2_with fail
                          refine (kind_ref _ (wfu_mk hyf) _).mono ?_
                          rintro e w2 ⟨rfl, rfl⟩
                          go_wp2_with fail
                          refine (at_ref _ (wfu_mk hyf) _).mono ?_
                          rintro e w2 ⟨rfl, rfl⟩
                          go_wp2_with fail
                          go_ret2
                          exact AllPost.no hno.out (below_drewN hSc.below _)
                      · have hne3 : (kindOf y == 3) = false := by rw [beq_eq_false_iff_ne]; omega
                        have hne0 : (kindOf y == 0) = false := by rw [beq_eq_false_iff_ne]; omega
                        have hyes : Hid (((tags vs x).take (p + 1)).all (rightW done) = true) := by
                          unfold Hid; rw [all_take_succ _ _ _ (by rw [HTL.out]; exact hpT), HPA.out, ← HY.out]; simp [rightW]; omega
                        clear hk12
                        go_wp2_with fail
                        go_quiet (fail)
                        go_wp2_with fail
                        refine (kind_ref _ (wfu_mk hyf) _).mono ?_
                        rintro e w2 ⟨rfl, rfl⟩
                        go_wp2_with fail
                        refine (at_ref _ (wfu_mk hyf) _).mono ?_
                        rintro e w2 ⟨rfl, rfl⟩
                        go_wp2_with fail
                        go_roundw
                        case rel => exact ⟨p + 1, _, by go_num, by omega, rfl, hyes.out⟩
                        case measure => simp [intOf]; omega
                    · have hyes : Hid (((done.take (m + 1)).all fun a => (tags vs a).all (rightW done)) = true) := by
                        have hpa := HPA.out
                        rw [List.take_of_length_le (by rw [HTL.out]; omega)] at hpa
                        have hx := HX.out
                        rw [List.getElem?_eq_getElem hmd, Option.some.injEq] at hx
                        unfold Hid
                        rw [List.take_succ_eq_append_getElem hmd, List.all_append, Hall.out, hx]
                        simp [hpa]
                      go_wp2_with fail
                      go_roundw
                      case rel => exact ⟨m + 1, by go_num, by omega, hSc.drewN _, hyes.out⟩
                      case measure => simp [intOf]; omega
              · have hyes : Hid (memOk ws n = true) := by
                  unfold Hid; rw [HM.out, HD.out, Bool.true_and]; unfold shapeOk; rw [HSC.out]
                  have h := Hall.out
                  rw [List.take_of_length_le (by omega)] at h
                  exact h
                go_wp2_with fail
                go_ret2
                exact AllPost.yes hyes.out (by rw [HVS.out]; exact HSC.out) hS.below hS.own
end
section
open Go.ChangeShapes Go.WideShapes Go.ChangeAt Go.RowKit
set_option linter.unusedVariables false
set_option linter.unusedSimpArgs false
theorem AllPost.no' {W w' : World} {ws : List Int} {top : Int} (h : sizesOk ws top = false) (hb : Below W.heap.size W w') : AllPost W ws top (.returned (.tuple #[.slice none 0 0, .bool false])) w' :=
  AllPost.no (by unfold memOk; rw [h]; rfl) hb
set_option maxRecDepth 100000 in
set_option maxHeartbeats 1000000 in
theorem refall_no (v : Value) (ws : List Int) (top : Int) (w : World) (hr : Rd w v ws) (hf : Fit ws) (ht : -9223372036854775808 ≤ top ∧ top ≤ 9223372036854775807) (hno : sizesOk ws top = false) :
    Calls Try.prog 20 #[.agg #[v, .int .i64 top]] w (AllPost w ws top) := by
  have HN := Lib.hid hno
  simp only [sizesOk, decide_eq_false_iff_not] at hno
  by_cases h1 : ws.length < 2
  · rcases hr with ⟨p0, rfl, rfl⟩ | ⟨b, off, c, rfl, hl, hc, hcell⟩
    · go_enter Try.func20, Try.ntmps20
      go_wp2_with fail
      go_ret2
      exact AllPost.no' HN.out ((Below.refl _ _).alloc (Nat.le_refl _) _)
    · clear hcell
      go_enter Try.func20, Try.ntmps20
      go_wp2_with fail
      go_ret2
      exact AllPost.no' HN.out ((Below.refl _ _).alloc (Nat.le_refl _) _)
  · obtain ⟨b, off, c, rfl, hl, hc, hcell⟩ := hr.some (by omega)
    have hc0 := fun o => alloc_cell (hcell 0 (by omega)) o
    rw [Nat.add_zero] at hc0
    clear hcell hr
    by_cases h2 : 1048576 < ws.length
    · go_enter Try.func20, Try.ntmps20
      go_wp2_with fail
      go_ret2
      exact AllPost.no' HN.out ((Below.refl _ _).alloc (Nat.le_refl _) _)
    · by_cases h3 : top < 1
      · go_enter Try.func20, Try.ntmps20
        go_wp2_with fail
        go_ret2
        exact AllPost.no' HN.out ((Below.refl _ _).alloc (Nat.le_refl _) _)
      · by_cases h4 : (ws.length : Int) < top
        · go_enter Try.func20, Try.ntmps20
          go_wp2_with fail
          go_ret2
          exact AllPost.no' HN.out ((Below.refl _ _).alloc (Nat.le_refl _) _)
        · have h5 : ws.getD 0 0 ≠ 0 := fun e => hno ⟨by omega, by omega, by omega, by omega, e⟩
          generalize ws.getD 0 0 = x at *
          have h6 : (x != 0) = true := by simpa using h5
          have j0 : 0 < ws.length := by omega
          clear h5 hno
          go_enter Try.func20, Try.ntmps20
          go_wp2_with fail
          go_ret2
          exact AllPost.no' HN.out ((Below.refl _ _).alloc (Nat.le_refl _) _)
theorem refall_any (v : Value) (ws : List Int) (top : Int) (w : World) (hr : Rd w v ws) (hf : Fit ws) (ht : -9223372036854775808 ≤ top ∧ top ≤ 9223372036854775807) :
    Calls Try.prog 20 #[.agg #[v, .int .i64 top]] w (AllPost w ws top) := by
  by_cases h : sizesOk ws top = true
  · exact refall_yes v ws top w hr hf h
  · exact refall_no v ws top w hr hf ht (by simpa using h)
end
end Go.Proofs.Ytilonacjmihglaa
