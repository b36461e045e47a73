/- Layer 10: one more that waits. -/
import Derived.Test.YtnniohimbmnapaaDoorLk
namespace Go.Proofs.YtnniohimbmnapaaDoor
open Go Go.ChangeShapes Go.WideShapes Go.RowKit
set_option linter.unusedVariables false
set_option linter.unusedSimpArgs false
def LkE (r : RestV) (F : FuncD) (iv rv : Value) (Y : Lay) (n m s S0 : Nat) (FV : Nat → Value) (FF : Nat → List Nat) (A : World) (L : List (List Nat)) (wt : List Bool) (work sc : List Nat) : Prop :=
  ∃ tg wv, LkX r F iv rv Y n m s S0 none A.heap.size tg FV FF wv A L wt work sc
def WaitPost (r : RestV) (F : FuncD) (iv rv : Value) (Y : Lay) (n m s S0 : Nat) (FV : Nat → Value) (FF : Nat → List Nat) (A : World) (L : List (List Nat)) (wt : List Bool) (work sc : List Nat) (tg : Nat → Nat) (e : Ending) (B : World) : Prop :=
  (∃ v, e = .returned v) ∧ (∃ tg' wv', LkX r F iv rv Y n m s S0 none B.heap.size tg' FV FF wv' B L wt work sc ∧ Fr tg tg' A B) ∧ Below S0 A B
set_option maxRecDepth 100000 in
set_option maxHeartbeats 4000000 in
theorem wait_any {r : RestV} {F : FuncD} {iv rv : Value} {Y : Lay} {n m s S0 : Nat} {FV : Nat → Value} {FF : Nat → List Nat} {A : World} {L : List (List Nat)} {wt : List Bool} {work sc : List Nat}
    {H : Nat} {tg : Nat → Nat} {wv : Value} (h : LkX r F iv rv Y n m s S0 none H tg FV FF wv A L wt work sc) (hlen : wt.length = n) {x : Nat} (hx : x < n) (hnn : n ≤ 1048576) (hwl : work.length < 8796093022208) :
    Calls Tryd.prog 50 #[.pointer (some ⟨Y.bl, 0, none⟩), .int .i64 x] A (WaitPost r F iv rv Y n m s S0 FV FF A L (wait1 (wt, work) x).1 (wait1 (wt, work) x).2 sc tg) := by
  have h := h.up h.hH (Nat.le_refl _)
  have hn : ∀ k, (none : Option Nat) ≠ some k := fun k h => by cases h
  have T := h.tgs
  have hlk := h.lk (hn _)
  have hwt := h.wait (hn _)
  have hcW : A.cell? ⟨Y.bl, 12, none⟩ = some (.slice (some ⟨Y.bW, 0, none⟩) n n) := hlk.cell rfl
  have hck : A.cell? ⟨Y.bl, 13, none⟩ = some wv := hlk.cell rfl
  obtain ⟨b, hb⟩ : ∃ b, wt.getD x true = b := ⟨_, rfl⟩
  have hcx : A.cell? ⟨Y.bW, x, none⟩ = some (.bool b) := hwt.cell (by
    rw [List.getElem?_map, List.getElem?_eq_getElem (by omega)]
    rw [List.getD_eq_getElem?_getD, List.getElem?_eq_getElem (by omega)] at hb
    simpa using hb)
  have hfx := hwt.frozen x
  have hxz : (x : Int) < (n : Int) := by omega
  have H := Lib.hid h
  have HT := Lib.hid T
  have HB := Lib.hid hb
  clear h T hlk hwt hlen hn hb
  cases b with
  | true =>
    have HW := Lib.hid (show wait1 (wt, work) x = (wt, work) by unfold wait1; exact if_pos HB.out)
    go_enter Tryd.func50, Tryd.ntmps50
    go_wp2
    go_end0
    exact ⟨⟨_, rfl⟩, by rw [HW.out]; exact ⟨tg, wv, H.out, Fr.refl _ _⟩, Below.refl _ _⟩
  | false =>
    have HW := Lib.hid (show wait1 (wt, work) x = (wt.set x true, work ++ [x]) by unfold wait1; exact if_neg (by rw [HB.out]; simp))
    have h1 := H.out.setWait x true
    have HS := Lib.hid h1
    have hlk1 := h1.lk (fun e => by cases e)
    have hf1 := hlk1.frozen 13
    have hc1 : (A.setCell ⟨Y.bW, x, none⟩ (.bool true)).cell? ⟨Y.bl, 13, none⟩ = some wv := hlk1.cell rfl
    obtain ⟨pv, cv, rfl⟩ := own_form (h1.work_ (fun e => by cases e))
    rw [ints_len] at hc1 hck H HS h1 hlk1
    have HLK := Lib.hid hlk1
    have hl1 := hlk1.lt
    have hc2 := alloc_cell hc1 (.cells #[.int .i64 x] 3)
    clear h1 hlk1
    go_enter Tryd.func50, Tryd.ntmps50
    have HX := Lib.hid (show ∀ (B : World) (v' : Value), Apd ((A.setCell ⟨Y.bW, x, none⟩ (.bool true)).alloc (.cells #[.int .i64 x] 3)) B S0 3 (.slice pv work.length cv) v' ((ints work).length + 1) ((ints work).map (Value.int .i64) ++ [Value.int .i64 (x : Int)]) → B.cell? ⟨Y.bl, 13, none⟩ = some (.slice pv work.length cv) ∧ B.frozen? ⟨Y.bl, 13, none⟩ = false from fun B v' hap => by
      have hb : Blk B Y.bl (lkC r F iv rv Y n s (.slice pv work.length cv)) 72 := (HLK.out.block (Below.heap_alloc _ _ _ HLK.out.lt)).block (hap.grown.block Y.bl (by simp; have := HLK.out.lt; simp at this; omega) (fun e => by have := (HS.out.tgs.work Y.bl e.symm).1; rw [HS.out.tgs.b0] at this; omega))
      exact ⟨hb.cell rfl, hb.frozen 13⟩)
    have hil : (ints work).length ≤ 8796093022208 := by rw [ints_len]; omega
    go_wp2_with (at_builtin; refine wpList_app rfl (.tmp 22) (.tmp 24) rfl Tryd.underlying31 infoInt rfl rfl (v := .slice pv work.length cv) (base := S0) (n := (ints work).length) (m := 1) (xs := (ints work).map (Value.int .i64)) (news := [.int .i64 x]) (OW.keep (HS.out.work_ (fun e => by cases e)) ((Below.refl _ _).alloc (Nat.le_refl _) _)) rfl (src_one (by simp)) (by simp [Value.oneCell']) (by unfold maxLen; omega) (by omega) (by have := HT.out.l0; simp; omega) ?_; intro v' w1 hap; have HAP := Lib.hid hap; obtain ⟨hcw, hfw⟩ := HX.out w1 v' hap; clear hap; obtain ⟨pv', cv', rfl⟩ := own_form (own_apd HAP.out))
    go_end0
    have hp := HS.out.pushWork HAP.out
    rw [show (ints work ++ [(x : Int)]).length = (ints work).length + 1 by simp] at hp
    have hf : Fr tg tg A (A.setCell ⟨Y.bW, x, none⟩ (.bool true)) := fun g hg h1 => ⟨h1, Below.heap_setCell _ _ _ g (fun e => by rw [e, HT.out.b3] at h1; omega)⟩
    exact ⟨⟨_, rfl⟩, by rw [HW.out]; exact ⟨_, _, hp.1, hf.trans hp.2.2 (by simp)⟩, ((Below.refl S0 A).setCell HT.out.l3.1 _).trans hp.2.1⟩
end Go.Proofs.YtnniohimbmnapaaDoor
