/- Layer 10: which registers are live. -/
import Derived.Test.YtnniohimbmnapaaDoorFLook
import Derived.Test.YtnniohimbmnapaaDoorLk3
import Derived.Test.YtnniohimbmnapaaDoorKhR
import Derived.Deep.LoopGhost
import Derived.Deep.CutRange
import Derived.Deep.OwnRows
import Derived.BigRegion
namespace Go.Proofs.YtnniohimbmnapaaDoor
open Go Go.ChangeShapes Go.WideShapes Go.RowKit
set_option linter.unusedVariables false
set_option linter.unusedSimpArgs false
attribute [local go_sem] Oper.semAt_some
theorem infoSlU : (Tryd.prog.info? 52).map (fun i => (i.zero, i.size, i.bytes)) = some (some (.slice none 0 0), 1, 24) := by kernel_rfl
theorem infoSlI : (Tryd.prog.info? 31).map (fun i => (i.zero, i.size, i.bytes)) = some (some (.slice none 0 0), 1, 24) := by kernel_rfl
theorem infoBoolL : (Tryd.prog.info? 4).map (fun i => (i.zero, i.size, i.bytes)) = some (some (.bool false), 1, 1) := by kernel_rfl
theorem infoU64L : (Tryd.prog.info? 53).map (fun i => (i.zero, i.size, i.bytes)) = some (some (.int .u64 0), 1, 8) := by kernel_rfl
theorem made_one (z : Value) (n : Nat) : madeCells #[z] n = (List.replicate n z).toArray := by
  apply Array.ext
  · simp [madeCells]
  · intro i h1 h2; simp [madeCells, Nat.mod_one]
theorem mk_row {T E : TypeId} {z : Value} {bytes : Nat} (ht : Tryd.prog.underlying T = some (.slice E)) (hinfo : (Tryd.prog.info? E).map (fun i => (i.zero, i.size, i.bytes)) = some (some z, 1, bytes)) (hz1 : z.cells = #[z]) (n : Nat) (hb : bytes * n ≤ 281474976710656) (h63 : n ≤ 9223372036854775807) (w : World) :
    (Instr.makeSlice T (.int .i64 (n : Int)) (.int .i64 (n : Int))).run Tryd.prog w = .ok (.slice (some ⟨w.heap.size, 0, none⟩) n n) (w.alloc (.cells (List.replicate n z).toArray E)) := by
  rw [run_make_row' T E z bytes ht hinfo hz1 .i64 .i64 n hb h63 w, made_one]
def lkL (r : RestV) (F : FuncD) (iv rv v26 v28 v30 v32 : Value) : List Value :=
  [.string r.name, .int .i64 F.params, .int .i64 F.regs, .int .i64 r.frees, .bool r.gen, .int .i64 r.bound, .slice r.np r.nn r.nc, .slice r.cp r.cn r.cc, iv, rv, v26, v28, v30, .slice none 0 0, v32]
def lkV (r : RestV) (F : FuncD) (iv rv v26 v28 v30 v32 : Value) : Value := .agg (lkL r F iv rv v26 v28 v30 v32).toArray
theorem run_move {P : Program} {ρ : Operand → Value} {o : Oper} {x : Operand} (h : o.op = .move x) (w : World) : (execOp ρ o).run P w = .ok (.value (ρ x)) w := by
  unfold execOp; rw [h]; rfl
def LvStart (r : RestV) (F : FuncD) (iv rv : Value) (n s : Nat) (w9 : World) (v6 : Value) (W : World) : Prop :=
  ∃ b6 bl bL bF bW bS : Nat, v6 = .pointer (some ⟨b6, 0, none⟩) ∧ Blk W b6 [.pointer (some ⟨bl, 0, none⟩)] 69 ∧ Blk W bl (lkC r F iv rv ⟨bl, bL, bF, bW, bS, fun _ => 0⟩ n s (.slice none 0 0)) 72 ∧ Blk W bL (List.replicate n (.slice none 0 0)) 52 ∧
    Blk W bF (List.replicate n (.slice none 0 0)) 31 ∧ Blk W bW (List.replicate n (.bool false)) 4 ∧ Blk W bS (List.replicate s (.int .u64 0)) 53 ∧ Below w9.heap.size w9 W ∧ (w9.heap.size ≤ b6 ∧ w9.heap.size ≤ bl ∧ w9.heap.size ≤ bL ∧ w9.heap.size ≤ bF ∧ w9.heap.size ≤ bW ∧ w9.heap.size ≤ bS)
theorem lk_start {r : RestV} {F : FuncD} {iv rv : Value} {n s S0 : Nat} {w9 W : World} {v6 : Value} (h : LvStart r F iv rv n s w9 v6 W) (hw : S0 ≤ w9.heap.size) (L : List (List Nat)) :
    ∃ (b6 : Nat) (Y : Lay) (tg : Nat → Nat), v6 = .pointer (some ⟨b6, 0, none⟩) ∧ Boxed W b6 69 (.pointer (some ⟨Y.bl, 0, none⟩)) ∧ w9.heap.size ≤ b6 ∧ tg b6 = 1 ∧ b6 ≠ Y.bL ∧ (w9.heap.size ≤ Y.bL) ∧ (∀ b, b < w9.heap.size → tg b = 1) ∧ (∀ b, W.heap.size ≤ b → tg b = 1) ∧
      LkX r F iv rv Y n 0 s S0 none W.heap.size tg (fun _ => .slice none 0 0) (fun _ => []) (.slice none 0 0) W L (List.replicate n false) [] (List.replicate s 0) ∧ Below w9.heap.size w9 W := by
  obtain ⟨b6, bl, bL, bF, bW, bS, rfl, h6, hl, hL, hF, hW, hS, hb, q6, ql, qL, qF, qW, qS⟩ := h
  have n1 : bl ≠ bL := fun e => absurd ((e ▸ hl).type hL) (by decide)
  have n2 : bl ≠ bF := fun e => absurd ((e ▸ hl).type hF) (by decide)
  have n3 : bl ≠ bW := fun e => absurd ((e ▸ hl).type hW) (by decide)
  have n4 : bl ≠ bS := fun e => absurd ((e ▸ hl).type hS) (by decide)
  have n5 : bL ≠ bF := fun e => absurd ((e ▸ hL).type hF) (by decide)
  have n6 : bL ≠ bW := fun e => absurd ((e ▸ hL).type hW) (by decide)
  have n7 : bL ≠ bS := fun e => absurd ((e ▸ hL).type hS) (by decide)
  have n8 : bF ≠ bW := fun e => absurd ((e ▸ hF).type hW) (by decide)
  have n9 : bF ≠ bS := fun e => absurd ((e ▸ hF).type hS) (by decide)
  have n10 : bW ≠ bS := fun e => absurd ((e ▸ hW).type hS) (by decide)
  have m1 : b6 ≠ bl := fun e => absurd ((e ▸ h6).type hl) (by decide)
  have m2 : b6 ≠ bL := fun e => absurd ((e ▸ h6).type hL) (by decide)
  have m3 : b6 ≠ bF := fun e => absurd ((e ▸ h6).type hF) (by decide)
  have m4 : b6 ≠ bW := fun e => absurd ((e ▸ h6).type hW) (by decide)
  have m5 : b6 ≠ bS := fun e => absurd ((e ▸ h6).type hS) (by decide)
  have l0 := hl.lt
  have l1 := hL.lt
  have l2 := hF.lt
  have l3 := hW.lt
  have l4 := hS.lt
  obtain ⟨tg, ht0, ht1, ht2, ht3, ht4, ht5⟩ : ∃ tg : Nat → Nat, tg bl = 0 ∧ tg bL = 1 ∧ tg bF = 2 ∧ tg bW = 3 ∧ tg bS = 4 ∧ ∀ b, b ≠ bl → b ≠ bF → b ≠ bW → b ≠ bS → tg b = 1 := by
    refine ⟨fun b => if b = bl then 0 else if b = bF then 2 else if b = bW then 3 else if b = bS then 4 else 1, if_pos rfl, ?_, ?_, ?_, ?_, fun b h1 h2 h3 h4 => ?_⟩
    · dsimp only; rw [if_neg (Ne.symm n1), if_neg n5, if_neg n6, if_neg n7]
    · dsimp only; rw [if_neg (Ne.symm n2), if_pos rfl]
    · dsimp only; rw [if_neg (Ne.symm n3), if_neg (Ne.symm n8), if_pos rfl]
    · dsimp only; rw [if_neg (Ne.symm n4), if_neg (Ne.symm n9), if_neg (Ne.symm n10), if_pos rfl]
    · dsimp only; rw [if_neg h1, if_neg h2, if_neg h3, if_neg h4]
  refine ⟨b6, ⟨bl, bL, bF, bW, bS, fun _ => 0⟩, tg, rfl, h6, q6, ht5 b6 m1 m3 m4 m5, m2, qL, fun b hb' => ht5 b (by omega) (by omega) (by omega) (by omega), fun b hb' => ht5 b (by omega) (by omega) (by omega) (by omega), ?_, hb⟩
  refine ⟨⟨ht0, ht1, ht2, ht3, ht4, ⟨by show S0 ≤ bl; omega, l0⟩, ⟨by show S0 ≤ bL; omega, l1⟩, ⟨by show S0 ≤ bF; omega, l2⟩, ⟨by show S0 ≤ bW; omega, l3⟩, ⟨by show S0 ≤ bS; omega, l4⟩, fun x hx => by omega, fun x hx g hg => (by cases hg), fun g hg => (by cases hg)⟩, Nat.le_refl _, fun _ => hl, fun _ => ?_, fun _ => ?_, fun _ => ?_, fun _ => ?_, fun _ => OW.nil _ _, fun x hx => by omega, fun x hx _ => OW.nil _ _⟩
  · have he : liveC ⟨bl, bL, bF, bW, bS, fun _ => 0⟩ n 0 s = List.replicate n (.slice none 0 0) := by
      unfold liveC
      refine List.ext_getElem (by simp) fun i h1 h2 => by simp
    rw [he]; exact hL
  · have he : (List.range n).map (fun _ => Value.slice none 0 0) = List.replicate n (.slice none 0 0) := by
      refine List.ext_getElem (by simp) fun i h1 h2 => by simp
    rw [he]; exact hF
  · simpa using hW
  · simpa [wordV] using hS
def Lay.wr (Y : Lay) (ρ : Nat → Nat) : Lay := { Y with rho := ρ }
/-- What the rounds hold that lay out rows and from where ways lead. -/
structure L1 (r : RestV) (F : FuncD) (iv rv : Value) (s : Nat) (w : World) (b6 : Nat) (Y : Lay) (k : Nat) (tg : Nat → Nat) (FV : Nat → Value) (ds : List Deferred) (W : World) : Prop where
  st : LkX r F iv rv Y F.ins.length k s w.heap.size none W.heap.size tg FV (ffAll F k) (.slice none 0 0) W (rowsR F s) (List.replicate F.ins.length false) [] (List.replicate s 0)
  hi : ∀ b, W.heap.size ≤ b → tg b = 1
  b0 : Box10 W w.heap.size r F iv rv
  t0 : tg w.heap.size = 1 ∧ w.heap.size ≠ Y.bL
  x6 : Boxed W b6 69 (.pointer (some ⟨Y.bl, 0, none⟩))
  t6 : tg b6 = 1 ∧ b6 ≠ Y.bL
  mks : ∃ Ds : List Nat, ds = Ds.map (fun D => { target := .collected D, args := #[] }) ∧ Ds.Nodup ∧ ∀ D ∈ Ds, w.heap.size < D ∧ tg D = 1 ∧ W.heap[D]? = some (.deferred (some []))
  low : Below w.heap.size w W
def LR1 (r : RestV) (F : FuncD) (iv rv : Value) (s : Nat) (w : World) (b6 : Nat) (Y : Lay) (N : Nat) (u : Value) (ds : List Deferred) (W : World) : Prop :=
  ∃ (k : Nat) (ρ : Nat → Nat) (tg : Nat → Nat) (FV : Nat → Value), N = F.ins.length - k ∧ u = .int .i64 k ∧ k ≤ F.ins.length ∧ L1 r F iv rv s w b6 (Y.wr ρ) k tg FV ds W
/-- What the rounds hold that note down from where ways lead. -/
structure RJ (r : RestV) (F : FuncD) (iv rv : Value) (s : Nat) (w WL : World) (Y : Lay) (k : Nat) (tg2 : Nat → Nat) (E j : Nat) (tg : Nat → Nat) (FV : Nat → Value) (A : World) : Prop where
  st : LkX r F iv rv Y F.ins.length (k + 1) s w.heap.size none A.heap.size tg FV (((waysN F k).take j).foldl (pushF k) (ffAll F k)) (.slice none 0 0) A (rowsR F s) (List.replicate F.ins.length false) [] (List.replicate s 0)
  fr : Fr tg2 tg WL A
  fresh : ∀ g, WL.heap.size ≤ g → g < E → tg g = 1
  hi : ∀ g, A.heap.size ≤ g → tg g = 1
  low : Below w.heap.size w A
  size : WL.heap.size ≤ A.heap.size
def RJX (r : RestV) (F : FuncD) (iv rv : Value) (s : Nat) (w WL : World) (Y : Lay) (k : Nat) (tg2 : Nat → Nat) (E j : Nat) (A : World) : Prop := ∃ tg FV, RJ r F iv rv s w WL Y k tg2 E j tg FV A
def LivePost (r : RestV) (F : FuncD) (iv rv : Value) (w : World) (e : Ending) (B : World) : Prop :=
  if soundB F then ∃ Y tg FV FF wv L wt work sc, e = .returned (.tuple #[.slice (some ⟨Y.bL, 0, none⟩) F.ins.length F.ins.length, .int .i64 0]) ∧ LkX r F iv rv Y F.ins.length F.ins.length (grOf F).s w.heap.size none B.heap.size tg FV FF wv B L wt work sc ∧
    OkL (grOf F) L ∧ (∀ y, y < F.ins.length → ∀ q, hasW (L.getD y []) q = true ↔ Lv (grOf F) y q) ∧ Below w.heap.size w B
  else e = .returned (.tuple #[.slice none 0 0, .int .i64 3]) ∧ Below w.heap.size w B
set_option maxRecDepth 100000 in
set_option maxHeartbeats 16000000 in
theorem live_any (r : RestV) (F : FuncD) (iv rv : Value) (w : World) (hU : Us w) (hI : Ii w iv F.ins) (hR : Rg w rv F.regions) (hnn : F.ins.length ≤ 1048576) :
    Calls Tryd.prog 23 #[funcV r F iv rv] w (LivePost r F iv rv w) := by
  obtain ⟨p, c, rfl, hc, hm, hp⟩ := ii_form hI
  obtain ⟨p2, c2, rfl, hc2, hm2, hp2⟩ := rg_form hR
  have HSN := sound_any r F (.slice p F.ins.length c) (.slice p2 F.regions.length c2)
  unfold funcV at HSN ⊢
  have HSO := Lib.hid HSN
  have HI := Lib.hid hI
  have HR := Lib.hid hR
  have HU := Lib.hid hU
  clear hp hp2 hI hR hU HSN
  cases hsd : soundB F with
  | false =>
    have HSD := Lib.hid hsd
    clear hsd
    refine calls_of_marks Tryd.func23 rfl ?_
    simp only [Tryd.ntmps23, List.size_toArray, List.length_cons, List.length_nil, Nat.reduceAdd, Nat.reduceSub, Array.replicate_succ, Array.replicate_zero, List.push_toArray, List.append_toArray, List.nil_append, List.cons_append]
    go_wp2_with (first | (go_at_call 15; (with_reducible refine (HSO.out _ (HU.out.keep (by ((repeat' (first | with_reducible assumption | with_reducible exact Below.refl _ _ | with_reducible refine Below.drew ?_ | with_reducible refine Below.alloc ?_ (by first | omega | (simp; omega) | (simp; done) | fail) _ | with_reducible refine Below.setCell ?_ (by first | omega | (simp; omega) | (simp; done) | fail) _ | fail)); (first | done | fail)))) (HI.out.keep (by ((repeat' (first | with_reducible assumption | with_reducible exact Below.refl _ _ | with_reducible refine Below.drew ?_ | with_reducible refine Below.alloc ?_ (by first | omega | (simp; omega) | (simp; done) | fail) _ | with_reducible refine Below.setCell ?_ (by first | omega | (simp; omega) | (simp; done) | fail) _ | fail)); (first | done | fail)))) (HR.out.keep (by ((repeat' (first | with_reducible assumption | with_reducible exact Below.refl _ _ | with_reducible refine Below.drew ?_ | with_reducible refine Below.alloc ?_ (by first | omega | (simp; omega) | (simp; done) | fail) _ | with_reducible refine Below.setCell ?_ (by first | omega | (simp; omega) | (simp; done) | fail) _ | fail)); (first | done | fail))))).mono ?_); rintro e w9 ⟨rfl, hb9⟩; have HB9 := Lib.hid hb9; rw [HSD.out]; clear hb9) | fail)
    refine ⟨_, results_tmp2 rfl _ _ _, ?_⟩
    unfold LivePost
    rw [if_neg (by rw [HSD.out]; simp)]
    exact ⟨rfl, ((Below.refl _ w).alloc (Nat.le_refl _) _).trans (HB9.out.mono (by simp))⟩
  | true =>
    have HSD := Lib.hid hsd
    have HSF := Lib.hid (soundF hsd)
    clear hsd
    have hr0 := HSF.out.r0
    have hr1 := HSF.out.r1
    obtain ⟨n, hn⟩ : ∃ n, F.ins.length = n := ⟨_, rfl⟩
    refine calls_of_marks Tryd.func23 rfl ?_
    simp only [Tryd.ntmps23, List.size_toArray, List.length_cons, List.length_nil, Nat.reduceAdd, Nat.reduceSub, Array.replicate_succ, Array.replicate_zero, List.push_toArray, List.append_toArray, List.nil_append, List.cons_append]
    clear hn n
    go_wp2_with (first | (go_at_call 15; (with_reducible refine (HSO.out _ (HU.out.keep (by ((repeat' (first | with_reducible assumption | with_reducible exact Below.refl _ _ | with_reducible refine Below.drew ?_ | with_reducible refine Below.alloc ?_ (by first | omega | (simp; omega) | (simp; done) | fail) _ | with_reducible refine Below.setCell ?_ (by first | omega | (simp; omega) | (simp; done) | fail) _ | fail)); (first | done | fail)))) (HI.out.keep (by ((repeat' (first | with_reducible assumption | with_reducible exact Below.refl _ _ | with_reducible refine Below.drew ?_ | with_reducible refine Below.alloc ?_ (by first | omega | (simp; omega) | (simp; done) | fail) _ | with_reducible refine Below.setCell ?_ (by first | omega | (simp; omega) | (simp; done) | fail) _ | fail)); (first | done | fail)))) (HR.out.keep (by ((repeat' (first | with_reducible assumption | with_reducible exact Below.refl _ _ | with_reducible refine Below.drew ?_ | with_reducible refine Below.alloc ?_ (by first | omega | (simp; omega) | (simp; done) | fail) _ | with_reducible refine Below.setCell ?_ (by first | omega | (simp; omega) | (simp; done) | fail) _ | fail)); (first | done | fail))))).mono ?_); rintro e w9 ⟨rfl, hb9⟩; have HB9 := Lib.hid hb9; rw [HSD.out]; have hbx := (Box10.new w r F (.slice p F.ins.length c) (.slice p2 F.regions.length c2) 27).keep hb9 (by simp); have HBX := Lib.hid hbx; obtain ⟨q0, q1, q2, q3, q4, q5, q6, q7, q8, q9⟩ := hbx; clear hb9) | fail)
    have hsz : (F.regs + 64 - 1) / 64 = (((F.regs.toNat + 63) / 64 : Nat) : Int) := by omega
    obtain ⟨s, hs⟩ : ∃ s, (F.regs.toNat + 63) / 64 = s := ⟨_, rfl⟩
    rw [hs] at hsz
    have hs10 : s ≤ 1024 := by omega
    simp only [hsz]
    have HSZ := Lib.hid hsz
    have HS := Lib.hid hs
    clear hs hsz
    have hm1 := mk_row Tryd.underlying43 infoSlU rfl F.ins.length (by omega) (by omega)
    have hm2 := mk_row Tryd.underlying70 infoSlI rfl F.ins.length (by omega) (by omega)
    have hm3 := mk_row Tryd.underlying38 infoBoolL rfl F.ins.length (by omega) (by omega)
    have hm4 := mk_row Tryd.underlying52 infoU64L rfl s (by omega) (by omega)
    go_cut [6] from 24 to 34 (fun v6 W => LvStart r F (.slice p F.ins.length c) (.slice p2 F.regions.length c2) F.ins.length s w9 v6 W)
    case first =>
      rename_i J2 K2 hJ2 hK2
      refine wp_region_any (by kernel_rfl) ?_
      (try (change wpAny _ _ _ _ _ _ _ (World.drew _)))
      refine any_only ?_
      refine wpAny_take (i := 1) (v := .int .i64 F.ins.length) rfl (by kernel_rfl) (by kernel_rfl) (by kernel_rfl) (fun _ _ _ h => h.elim) (Or.inl ⟨by rfl, fun W => run_move (x := .tmp 4) rfl W⟩) ?_
      
      refine wpAny_take (i := 3) (v := .int .i64 F.ins.length) rfl (by kernel_rfl) (by kernel_rfl) (by kernel_rfl) (fun _ _ _ h => h.elim) (Or.inl ⟨by rfl, fun W => run_move (x := .tmp 4) rfl W⟩) ?_
      
      refine wpAny_take (i := 5) (v := .int .i64 F.ins.length) rfl (by kernel_rfl) (by kernel_rfl) (by kernel_rfl) (fun _ _ _ h => h.elim) (Or.inl ⟨by rfl, fun W => run_move (x := .tmp 4) rfl W⟩) ?_
      
      refine wpAny_take (i := 7) (v := .int .i64 s) rfl (by kernel_rfl) (by kernel_rfl) (by kernel_rfl) (fun _ _ _ h => h.elim) (Or.inl ⟨by rfl, fun W => run_move (x := .tmp 5) rfl W⟩) ?_
      refine any9 (fun d0 d2 d4 d6 d8 d9 d10 d11 d12 a W => ∃ v24 v26 v28 v30 v32 v33 v34 v6 : Value, a = { tmps := #[Value.agg #[.string r.name, .int .i64 F.params, .int .i64 F.regs, .int .i64 r.frees, .bool r.gen, .int .i64 r.bound, .slice r.np r.nn r.nc, .slice r.cp r.cn r.cc, .slice p F.ins.length c, .slice p2 F.regions.length c2], Value.pointer (some ⟨w.heap.size, 0, none⟩), Value.slice none 0 0, Value.int .i64 0, Value.int .i64 F.ins.length, Value.int .i64 s, v6, undef, undef, undef, undef, undef, undef, Value.agg #[.string r.name, .int .i64 F.params, .int .i64 F.regs, .int .i64 r.frees, .bool r.gen, .int .i64 r.bound, .slice r.np r.nn r.nc, .slice r.cp r.cn r.cc, .slice p F.ins.length c, .slice p2 F.regions.length c2], Value.bool true, Value.bool false, Value.pointer (some ⟨w.heap.size, 8, none⟩), Value.slice p F.ins.length c, Value.int .i64 F.ins.length, Value.pointer (some ⟨w.heap.size, 2, none⟩), Value.int .i64 F.regs, Value.int .i64 (F.regs + 64), Value.int .i64 (F.regs + 64 - 1), Value.int .i64 s, v24, Value.int .i64 F.ins.length, v26, Value.int .i64 F.ins.length, v28, Value.int .i64 F.ins.length, v30, Value.int .i64 s, v32, v33, v34, undef, undef, undef, undef, undef, undef, undef, undef, undef, undef, undef, undef, undef, undef, undef, undef, undef, undef, undef, undef, undef, undef, undef, undef, undef, undef, undef, undef, undef, undef, undef, undef, undef, undef, undef, undef, undef, undef, undef, undef, undef, undef, undef, undef, undef, undef, undef, undef, undef, undef, undef, undef, undef, undef, undef, undef, undef, undef, undef, undef, undef, undef, undef, undef, undef, undef, undef, undef, undef, undef, undef, undef, undef, undef, undef, undef, undef, undef, undef, undef, undef, undef, undef, undef, undef, undef, undef, undef, undef, undef, undef, undef, undef], defers := [] } ∧ (w9.heap.size ≤ W.heap.size ∧ Below w9.heap.size w9 W) ∧ (d0 = true → v24 = Value.agg #[.string r.name, .int .i64 F.params, .int .i64 F.regs, .int .i64 r.frees, .bool r.gen, .int .i64 r.bound, .slice r.np r.nn r.nc, .slice r.cp r.cn r.cc, .slice p F.ins.length c, .slice p2 F.regions.length c2]) ∧
        RowAt d2 v26 F.ins.length (.slice none 0 0) 52 w9.heap.size W ∧ RowAt d4 v28 F.ins.length (.slice none 0 0) 31 w9.heap.size W ∧ RowAt d6 v30 F.ins.length (.bool false) 4 w9.heap.size W ∧ RowAt d8 v32 s (.int .u64 0) 53 w9.heap.size W ∧
        (d9 = true → d2 = true ∧ d4 = true ∧ d6 = true ∧ d8 = true ∧ v33 = lkV r F (.slice p F.ins.length c) (.slice p2 F.regions.length c2) v26 v28 v30 v32) ∧
        (d10 = true → d9 = true) ∧ BlkAt d10 v34 (lkL r F (.slice p F.ins.length c) (.slice p2 F.regions.length c2) v26 v28 v30 v32) 72 w9.heap.size W ∧
        (d12 = false → BlkAt d11 v6 [.pointer none] 69 w9.heap.size W) ∧ (d12 = true → (d10 = true ∧ d11 = true) ∧ LvStart r F (.slice p F.ins.length c) (.slice p2 F.regions.length c2) F.ins.length s w9 v6 W))
        (hf_of (by kernel_rfl)) (he_of (by kernel_rfl)) ?h0 ?h2 ?h4 ?h6 ?h8 ?h9 ?h10 ?h11 ?h12 ?hend 9 false false false false false false false false false _ _ (by decide) ?hst
      case h0 =>
        rintro d2 d4 d6 d8 d9 d10 d11 d12 a W ⟨v24, v26, v28, v30, v32, v33, v34, v6, rfl, ⟨hsW, hbW⟩, i0, i2, i4, i6, i8, i9, i9', i10, i11, i12⟩
        refine op_want rfl (by kernel_rfl) fun K' hK => ?_
        (try simp only [List.getElem_toArray, List.getElem_cons_succ, List.getElem_cons_zero])
        have hq := HBX.out.keep hbW (by have := HBX.out.lt; omega)
        obtain ⟨q0, q1, q2, q3, q4, q5, q6, q7, q8, q9⟩ := hq
        first | go_big_move | go_big_op
        exact hK _ _ ⟨_, v26, v28, v30, v32, v33, v34, v6, rfl, ⟨hsW, hbW⟩, fun _ => rfl, i2, i4, i6, i8, i9, i9', i10, i11, i12⟩
      case h2 =>
        rintro d0 d4 d6 d8 d9 d10 d11 d12 a W ⟨v24, v26, v28, v30, v32, v33, v34, v6, rfl, ⟨hsW, hbW⟩, i0, i2, i4, i6, i8, i9, i9', i10, i11, i12⟩
        refine op_want rfl (by kernel_rfl) fun K' hK => ?_
        (try simp only [List.getElem_toArray, List.getElem_cons_succ, List.getElem_cons_zero])
        first | go_big_move | go_big_op
        exact hK _ _ ⟨v24, _, v28, v30, v32, v33, v34, v6, rfl, ⟨by simp; omega, hbW.alloc hsW _⟩, i0, RowAt.new' hsW, i4.al _, i6.al _, i8.al _, fun e => (Bool.false_ne_true (i9 e).1).elim, i9', fun e => (Bool.false_ne_true (i9 (i9' e)).1).elim, fun e => (i11 e).al _, fun e => (Bool.false_ne_true (i9 (i9' (i12 e).1.1)).1).elim⟩
      case h4 =>
        rintro d0 d2 d6 d8 d9 d10 d11 d12 a W ⟨v24, v26, v28, v30, v32, v33, v34, v6, rfl, ⟨hsW, hbW⟩, i0, i2, i4, i6, i8, i9, i9', i10, i11, i12⟩
        refine op_want rfl (by kernel_rfl) fun K' hK => ?_
        (try simp only [List.getElem_toArray, List.getElem_cons_succ, List.getElem_cons_zero])
        first | go_big_move | go_big_op
        exact hK _ _ ⟨v24, v26, _, v30, v32, v33, v34, v6, rfl, ⟨by simp; omega, hbW.alloc hsW _⟩, i0, i2.al _, RowAt.new' hsW, i6.al _, i8.al _, fun e => (Bool.false_ne_true (i9 e).2.1).elim, i9', fun e => (Bool.false_ne_true (i9 (i9' e)).2.1).elim, fun e => (i11 e).al _, fun e => (Bool.false_ne_true (i9 (i9' (i12 e).1.1)).2.1).elim⟩
      case h6 =>
        rintro d0 d2 d4 d8 d9 d10 d11 d12 a W ⟨v24, v26, v28, v30, v32, v33, v34, v6, rfl, ⟨hsW, hbW⟩, i0, i2, i4, i6, i8, i9, i9', i10, i11, i12⟩
        refine op_want rfl (by kernel_rfl) fun K' hK => ?_
        (try simp only [List.getElem_toArray, List.getElem_cons_succ, List.getElem_cons_zero])
        first | go_big_move | go_big_op
        exact hK _ _ ⟨v24, v26, v28, _, v32, v33, v34, v6, rfl, ⟨by simp; omega, hbW.alloc hsW _⟩, i0, i2.al _, i4.al _, RowAt.new' hsW, i8.al _, fun e => (Bool.false_ne_true (i9 e).2.2.1).elim, i9', fun e => (Bool.false_ne_true (i9 (i9' e)).2.2.1).elim, fun e => (i11 e).al _, fun e => (Bool.false_ne_true (i9 (i9' (i12 e).1.1)).2.2.1).elim⟩
      case h8 =>
        rintro d0 d2 d4 d6 d9 d10 d11 d12 a W ⟨v24, v26, v28, v30, v32, v33, v34, v6, rfl, ⟨hsW, hbW⟩, i0, i2, i4, i6, i8, i9, i9', i10, i11, i12⟩
        refine op_want rfl (by kernel_rfl) fun K' hK => ?_
        (try simp only [List.getElem_toArray, List.getElem_cons_succ, List.getElem_cons_zero])
        first | go_big_move | go_big_op
        exact hK _ _ ⟨v24, v26, v28, v30, _, v33, v34, v6, rfl, ⟨by simp; omega, hbW.alloc hsW _⟩, i0, i2.al _, i4.al _, i6.al _, RowAt.new' hsW, fun e => (Bool.false_ne_true (i9 e).2.2.2.1).elim, i9', fun e => (Bool.false_ne_true (i9 (i9' e)).2.2.2.1).elim, fun e => (i11 e).al _, fun e => (Bool.false_ne_true (i9 (i9' (i12 e).1.1)).2.2.2.1).elim⟩
      case h9 =>
        rintro d10 d11 d12 a W ⟨v24, v26, v28, v30, v32, v33, v34, v6, rfl, ⟨hsW, hbW⟩, i0, i2, i4, i6, i8, i9, i9', i10, i11, i12⟩
        obtain rfl := i0 rfl
        obtain ⟨b2, rfl, g2, j2⟩ := i2 rfl
        obtain ⟨b4, rfl, g4, j4⟩ := i4 rfl
        obtain ⟨b6, rfl, g6, j6⟩ := i6 rfl
        obtain ⟨b8, rfl, g8, j8⟩ := i8 rfl
        refine op_want rfl (by kernel_rfl) fun K' hK => ?_
        (try simp only [List.getElem_toArray, List.getElem_cons_succ, List.getElem_cons_zero])
        first | go_big_move | go_big_op
        exact hK _ _ ⟨_, _, _, _, _, _, v34, v6, rfl, ⟨hsW, hbW⟩, fun _ => rfl, fun _ => ⟨b2, rfl, g2, j2⟩, fun _ => ⟨b4, rfl, g4, j4⟩, fun _ => ⟨b6, rfl, g6, j6⟩, fun _ => ⟨b8, rfl, g8, j8⟩, fun _ => ⟨rfl, rfl, rfl, rfl, rfl⟩, fun _ => rfl, fun e => (Bool.false_ne_true (i9' e)).elim, i11, fun e => (Bool.false_ne_true (i9' (i12 e).1.1)).elim⟩
      case h10 =>
        rintro d0 d2 d4 d6 d8 d11 d12 a W ⟨v24, v26, v28, v30, v32, v33, v34, v6, rfl, ⟨hsW, hbW⟩, i0, i2, i4, i6, i8, i9, i9', i10, i11, i12⟩
        obtain ⟨e2, e4, e6, e8, rfl⟩ := i9 rfl
        refine op_want rfl (by kernel_rfl) fun K' hK => ?_
        (try simp only [List.getElem_toArray, List.getElem_cons_succ, List.getElem_cons_zero])
        first | go_big_move | go_big_op
        exact hK _ _ ⟨v24, v26, v28, v30, v32, _, _, v6, rfl, ⟨by simp; omega, hbW.alloc hsW _⟩, i0, i2.al _, i4.al _, i6.al _, i8.al _, fun _ => ⟨e2, e4, e6, e8, rfl⟩, fun _ => rfl, BlkAt.new hsW, fun e => (i11 e).al _, fun e => (Bool.false_ne_true (i12 e).1.1).elim⟩
      case h11 =>
        rintro d0 d2 d4 d6 d8 d9 d10 d12 a W ⟨v24, v26, v28, v30, v32, v33, v34, v6, rfl, ⟨hsW, hbW⟩, i0, i2, i4, i6, i8, i9, i9', i10, i11, i12⟩
        refine op_want rfl (by kernel_rfl) fun K' hK => ?_
        (try simp only [List.getElem_toArray, List.getElem_cons_succ, List.getElem_cons_zero])
        first | go_big_move | go_big_op
        exact hK _ _ ⟨v24, v26, v28, v30, v32, v33, v34, _, rfl, ⟨by simp; omega, hbW.alloc hsW _⟩, i0, i2.al _, i4.al _, i6.al _, i8.al _, i9, i9', i10.al _, fun _ => BlkAt.new (cs := [.pointer none]) hsW, fun e => (Bool.false_ne_true (i12 e).1.2).elim⟩
      case h12 =>
        rintro d0 d2 d4 d6 d8 d9 a W ⟨v24, v26, v28, v30, v32, v33, v34, v6, rfl, ⟨hsW, hbW⟩, i0, i2, i4, i6, i8, i9, i9', i10, i11, i12⟩
        have e9 := i9' rfl
        obtain ⟨e2, e4, e6, e8, rfl⟩ := i9 e9
        obtain ⟨b2, rfl, g2, j2⟩ := i2 e2
        obtain ⟨b4, rfl, g4, j4⟩ := i4 e4
        obtain ⟨b6, rfl, g6, j6⟩ := i6 e6
        obtain ⟨b8, rfl, g8, j8⟩ := i8 e8
        obtain ⟨bl, rfl, gl, jl⟩ := i10 rfl
        obtain ⟨bp, rfl, gp, jp⟩ := i11 rfl rfl
        have hcp := jp.cell (i := 0) rfl
        have hfp := jp.frozen 0
        have n2 : b2 ≠ bp := fun e => absurd ((e ▸ j2).type jp) (by decide)
        have n4 : b4 ≠ bp := fun e => absurd ((e ▸ j4).type jp) (by decide)
        have n6 : b6 ≠ bp := fun e => absurd ((e ▸ j6).type jp) (by decide)
        have n8 : b8 ≠ bp := fun e => absurd ((e ▸ j8).type jp) (by decide)
        have nl : bl ≠ bp := fun e => absurd ((e ▸ jl).type jp) (by decide)
        refine op_want rfl (by kernel_rfl) fun K' hK => ?_
        (try simp only [List.getElem_toArray, List.getElem_cons_succ, List.getElem_cons_zero])
        first | go_big_move | go_big_op
        have hh : ∀ g, g ≠ bp → (W.setCell ⟨bp, 0, none⟩ (.pointer (some ⟨bl, 0, none⟩))).heap[g]? = W.heap[g]? := fun g hg => Below.heap_setCell _ _ _ g hg
        exact hK _ _ ⟨v24, _, _, _, _, _, _, _, rfl, ⟨by simp; omega, hbW.setCell gp _⟩, i0, fun _ => ⟨b2, rfl, g2, j2.block (hh _ n2)⟩, fun _ => ⟨b4, rfl, g4, j4.block (hh _ n4)⟩, fun _ => ⟨b6, rfl, g6, j6.block (hh _ n6)⟩, fun _ => ⟨b8, rfl, g8, j8.block (hh _ n8)⟩, fun _ => ⟨e2, e4, e6, e8, rfl⟩, fun _ => e9, fun _ => ⟨bl, rfl, gl, jl.block (hh _ nl)⟩, fun e => (by cases e), fun _ => ⟨⟨rfl, rfl⟩, bp, bl, b2, b4, b6, b8, rfl, jp.set 0 _, jl.block (hh _ nl), j2.block (hh _ n2), j4.block (hh _ n4), j6.block (hh _ n6), j8.block (hh _ n8), hbW.setCell gp _, gp, gl, g2, g4, g6, g8⟩⟩
      case hend =>
        rintro a W ⟨v24, v26, v28, v30, v32, v33, v34, v6, rfl, ⟨hsW, hbW⟩, i0, i2, i4, i6, i8, i9, i9', i10, i11, i12⟩
        have hlv := (i12 rfl).2
        simp only [OnlyN, Exit.then]
        refine hK2 _ _ (hJ2 _ _ ⟨v6, v24, .int .i64 F.ins.length, v26, .int .i64 F.ins.length, v28, .int .i64 F.ins.length, v30, .int .i64 s, v32, v33, v34, hlv, rfl⟩)
      case hst =>
        refine ⟨undef, undef, undef, undef, undef, undef, undef, undef, by kernel_rfl, ⟨Nat.le_refl _, (Below.refl _ w9).drew⟩, fun h => (by cases h), fun h => (by cases h), fun h => (by cases h), fun h => (by cases h), fun h => (by cases h), fun h => (by cases h), fun h => (by cases h), fun h => (by cases h), fun _ h => (by cases h), fun h => (by cases h)⟩
    case rest =>
      obtain ⟨b6, Y, tg, hv6, hbx6, hq6, ht6, hne6, hqL, htl, hth, hlk, hbw⟩ := lk_start (S0 := w.heap.size) hcut (by have := HB9.out.size; simp at this; omega) ((rowsR F s))
      subst hv6
      have HBW := Lib.hid hbw
      clear hcut q0 q1 q2 q3 q4 q5 q6 q7 q8 q9
      have HL0 := Lib.hid (show LR1 r F (.slice p F.ins.length c) (.slice p2 F.regions.length c2) s w b6 Y F.ins.length (.int .i64 0) [] wc from by
        have h9 := HB9.out.size
        rw [World.size_alloc] at h9
        refine ⟨0, Y.rho, tg, _, by simp, rfl, Nat.zero_le _, hlk, hth, HBX.out.keep hbw (by omega), ⟨htl _ (by omega), by show w.heap.size ≠ Y.bL; omega⟩, hbx6, ⟨ht6, hne6⟩, ⟨[], rfl, List.nodup_nil, fun _ h => by cases h⟩, ?_⟩
        exact (((Below.refl _ w).alloc (Nat.le_refl _) _).trans (HB9.out.mono (by simp))).trans (hbw.mono (by omega)))
      clear hlk hbx6 hbw htl hth
      go_wp2_with fail
      refine wp_loop_ghost_k (fun N a' w' => ∃ (U7 U9 U36 U37 U38 U39 U40 U41 U42 U43 U44 U45 U46 U47 U48 U49 U50 U51 U52 U53 U54 U55 U56 U57 U58 U59 U60 U61 U62 U63 U64 U65 U66 U67 U68 U69 U70 U71 U72 U73 U74 U75 U76 U77 U96 : Value) (ds : List Deferred), LR1 r F (.slice p F.ins.length c) (.slice p2 F.regions.length c2) s w b6 Y N U36 ds w' ∧ a' = { tmps := #[Value.agg #[.string r.name, .int .i64 F.params, .int .i64 F.regs, .int .i64 r.frees, .bool r.gen, .int .i64 r.bound, .slice r.np r.nn r.nc, .slice r.cp r.cn r.cc, .slice p F.ins.length c, .slice p2 F.regions.length c2], Value.pointer (some ⟨w.heap.size, 0, none⟩), Value.slice none 0 0, Value.int .i64 0, Value.int .i64 F.ins.length, Value.int .i64 s, Value.pointer (some ⟨b6, 0, none⟩), U7, undef, U9, undef, undef, undef, Value.agg #[.string r.name, .int .i64 F.params, .int .i64 F.regs, .int .i64 r.frees, .bool r.gen, .int .i64 r.bound, .slice r.np r.nn r.nc, .slice r.cp r.cn r.cc, .slice p F.ins.length c, .slice p2 F.regions.length c2], Value.bool true, Value.bool false, Value.pointer (some ⟨w.heap.size, 8, none⟩), Value.slice p F.ins.length c, Value.int .i64 F.ins.length, Value.pointer (some ⟨w.heap.size, 2, none⟩), Value.int .i64 F.regs, Value.int .i64 (F.regs + 64), Value.int .i64 (F.regs + 64 - 1), Value.int .i64 s, u24, u25, u26, u27, u28, u29, u30, u31, u32, u33, u34, Value.int .i64 F.ins.length, U36, U37, U38, U39, U40, U41, U42, U43, U44, U45, U46, U47, U48, U49, U50, U51, U52, U53, U54, U55, U56, U57, U58, U59, U60, U61, U62, U63, U64, U65, U66, U67, U68, U69, U70, U71, U72, U73, U74, U75, U76, U77, undef, undef, undef, undef, undef, undef, undef, undef, undef, undef, undef, undef, undef, undef, undef, undef, undef, undef, U96, undef, undef, undef, undef, undef, undef, undef, undef, undef, undef, undef, undef, undef, undef, undef, undef, undef, undef, undef, undef, undef, undef, undef, undef, undef, undef, undef, undef, undef, undef, undef], defers := ds }) F.ins.length ?_ ?_
      · (repeat apply Exists.intro)
        exact ⟨HL0.out, rfl⟩
      · intro gk _ Wk hinv
        obtain ⟨U7, U9, U36, U37, U38, U39, U40, U41, U42, U43, U44, U45, U46, U47, U48, U49, U50, U51, U52, U53, U54, U55, U56, U57, U58, U59, U60, U61, U62, U63, U64, U65, U66, U67, U68, U69, U70, U71, U72, U73, U74, U75, U76, U77, U96, ds, hrel, rfl⟩ := hinv
        intro J K hJ hK
        obtain ⟨k, ρ, tgk, FV, rfl, rfl, hk, hl⟩ := hrel
        dsimp only
        have hb6c := hl.x6.cell
        have HLK := Lib.hid hl
        have hsz0 := World.block_lt_of_cell? Wk _ hl.b0.c0
        by_cases hlt : k < F.ins.length
        · have hkz : (k : Int) < (F.ins.length : Int) := by omega
          clear hl
          go_wp2_with fail
          obtain ⟨W1, hW1⟩ : ∃ W1, Wk.alloc (.cells #[.int .i64 k] 3) = W1 := ⟨_, rfl⟩
          have hb1 : Below Wk.heap.size Wk W1 := by rw [← hW1]; ((repeat' (first | with_reducible assumption | with_reducible exact Below.refl _ _ | with_reducible refine Below.drew ?_ | with_reducible refine Below.alloc ?_ (by first | omega | (simp; omega) | (simp; done) | fail) _ | with_reducible refine Below.setCell ?_ (by first | omega | (simp; omega) | (simp; done) | fail) _ | fail)); (first | done | fail))
          have hs1 : W1.heap.size = Wk.heap.size + 1 := by rw [← hW1]; simp
          have hat : Boxed W1 Wk.heap.size 3 (.int .i64 k) := by rw [← hW1]; exact Boxed.new Wk _ _
          rw [hW1]
          have h1 := HLK.out.st.below hb1
          have hlk := h1.lk (fun e => by cases e)
          have hcL : W1.cell? ⟨Y.bl, 10, none⟩ = some (.slice (some ⟨Y.bL, 0, none⟩) F.ins.length F.ins.length) := hlk.cell rfl
          have hlive := h1.live (fun e => by cases e)
          have hfL : W1.frozen? ⟨Y.bL, k, none⟩ = false := hlive.frozen k
          have hcLk : W1.cell? ⟨Y.bL, k, none⟩ = some (.slice none 0 0) := hlive.cell (by
            unfold liveC
            rw [List.getElem?_map, List.getElem?_range hlt]
            simp)
          have hc6 : W1.cell? ⟨b6, 0, none⟩ = some (.pointer (some ⟨Y.bl, 0, none⟩)) := (hb1.cell (p := ⟨b6, 0, none⟩) HLK.out.x6.lt).trans HLK.out.x6.cell
          have hcat := hat.cell
          have hcL2 := alloc_cell hcL (.cells (Array.replicate s (.int .u64 0)) 53)
          have hcLk2 := alloc_cell hcLk (.cells (Array.replicate s (.int .u64 0)) 53)
          have hc62 := alloc_cell hc6 (.cells (Array.replicate s (.int .u64 0)) 53)
          have hcat2 := alloc_cell hcat (.cells (Array.replicate s (.int .u64 0)) 53)
          have hfL2 : (W1.alloc (.cells (Array.replicate s (.int .u64 0)) 53)).frozen? ⟨Y.bL, k, none⟩ = false := (hlive.block (Below.heap_alloc _ _ _ hlive.lt)).frozen k
          have hnr := h1.newRow hlt (by rw [rowsR_len]; exact hlt)
          rw [show (List.replicate s (Value.int .u64 0)).toArray = Array.replicate s (.int .u64 0) from by simp] at hnr
          have HNR := Lib.hid hnr
          have HAT := Lib.hid hat
          have HB1 := Lib.hid hb1
          have HS1 := Lib.hid hs1
          clear h1 hlk hlive hnr hat hb1 hs1 hW1
          go_region
          obtain ⟨W2, hW2⟩ : ∃ W2, ((W1.alloc (.cells (Array.replicate s (.int .u64 0)) 53)).setCell ⟨Y.bL, k, none⟩ (.slice (some ⟨W1.heap.size, 0, none⟩) s s)).drew = W2 := ⟨_, rfl⟩
          have hs2 : W2.heap.size = W1.heap.size + 1 := by rw [← hW2]; simp
          obtain ⟨tg2, htg2⟩ : ∃ t, tagAt tgk W1.heap.size (6 + 2 * k) = t := ⟨_, rfl⟩
          have hT := HLK.out.st.tgs
          have hk2 : ∀ g, g < W1.heap.size → tgk g = 1 → tg2 g = 1 ∧ (g ≠ Y.bL → W2.heap[g]? = W1.heap[g]?) := fun g hg h1 => by
            have h := HNR.out.2 g hg h1
            rw [htg2] at h
            exact ⟨h.1, fun hne => by rw [← hW2]; exact h.2 hne⟩
          have h2 : LkX r F (.slice p F.ins.length c) (.slice p2 F.regions.length c2) (Y.wr (fun x => if x = k then W1.heap.size else ρ x)) F.ins.length (k + 1) s w.heap.size none W2.heap.size tg2 FV (ffAll F k) (.slice none 0 0) W2 ((rowsR F s).set k (List.replicate s 0)) (List.replicate F.ins.length false) [] (List.replicate s 0) := by
            have h := HNR.out.1.below (Below.refl _ _).drew
            rw [htg2] at h
            rw [← hW2]
            exact h.up (by simp) (Nat.le_refl _)
          have hs1 := HS1.out
          have hhi2 : ∀ b, W2.heap.size ≤ b → tg2 b = 1 := fun b hb => by
            rw [← htg2]
            unfold tagAt
            rw [if_neg (by omega)]
            exact HLK.out.hi b (by omega)
          have htat : tgk Wk.heap.size = 1 := HLK.out.hi _ (Nat.le_refl _)
          have hlw2 : Below w.heap.size w W2 := by
            have h1 := HLK.out.low.trans (HB1.out.mono HLK.out.low.size)
            have h2 := (h1.alloc (by have := h1.size; omega) (.cells (Array.replicate s (.int .u64 0)) 53)).setCell (p := ⟨Y.bL, k, none⟩) (hT.l1.1) (.slice (some ⟨W1.heap.size, 0, none⟩) s s)
            rw [← hW2]; exact h2.drew
          have hbL : Y.bL < Wk.heap.size := hT.l1.2
          have hf0 := hk2 w.heap.size (by omega) HLK.out.t0.1
          have hx0 : Box10 W2 w.heap.size r F (.slice p F.ins.length c) (.slice p2 F.regions.length c2) := (HLK.out.b0.keep HB1.out hsz0).block (hf0.2 HLK.out.t0.2)
          have hl6 := HLK.out.x6.lt
          have hf6 := hk2 b6 (by omega) HLK.out.t6.1
          have hx6 : Boxed W2 b6 69 (.pointer (some ⟨Y.bl, 0, none⟩)) := (hf6.2 HLK.out.t6.2).trans ((HB1.out.block _ hl6).trans HLK.out.x6)
          have hfa := hk2 Wk.heap.size (by omega) htat
          have hxa : Boxed W2 Wk.heap.size 3 (.int .i64 k) := (hfa.2 (by omega)).trans HAT.out
          rw [hW2]
          have H2 := Lib.hid h2
          have HHI2 := Lib.hid hhi2
          have HLW2 := Lib.hid hlw2
          have HX0 := Lib.hid hx0
          have HX6 := Lib.hid hx6
          have HXA := Lib.hid hxa
          have HK2 := Lib.hid hk2
          have HS2 := Lib.hid hs2
          have HT2 := Lib.hid (show tg2 w.heap.size = 1 ∧ tg2 b6 = 1 ∧ tg2 Wk.heap.size = 1 from ⟨hf0.1, hf6.1, hfa.1⟩)
          have HWK := Lib.hid hT
          clear hcL hfL hcLk hc6 hcat hcL2 hcLk2 hc62 hcat2 hfL2 h2 hhi2 hlw2 hx0 hx6 hxa hk2 hs2 hf0 hf6 hfa htg2 hW2 HNR hb6c hT htat
          obtain ⟨pI, cI, hpe, _, _, hpI⟩ := ii_form HI.out
          simp only [Value.slice.injEq] at hpe
          obtain ⟨rfl, _, rfl⟩ := hpe
          obtain ⟨bI, oI, rfl, hcI⟩ := hpI (by omega)
          obtain ⟨lv, hat7⟩ := hcI k hlt
          have HRN := Lib.hid (HSF.out.reads_ints hlt)
          obtain ⟨e0, e1, e2, e3, e4, e5, e6, e7, hll⟩ := hat7.keep HLW2.out
          have HRDL := Lib.hid (readsD_len (F.ins.getD k insZ))
          generalize F.ins.getD k insZ = ins at e0 e1 e2 e3 e4 e5 e6 e7 hll HRN HRDL
          obtain ⟨p7, c7, rfl, hy1, hy2, hy3⟩ := ri_form e7
          have HRE := reads_any ins (.slice p7 ins.l.length c7) W2 (HU.out.keep HLW2.out) e7 hll
          unfold insV at HRE
          have HREE := Lib.hid HRE
          have hc8 := HX0.out.c8
          have hcat := HXA.out.cell
          clear hat7 hcI hpI e7 hy1 hy2 hy3 HRE
          go_wp2_with (first | (go_at_call 42; (with_reducible refine HREE.out.mono ?_); rintro e W3 ⟨uR, rfl, hu, hb3⟩; rw [HRN.out] at hu; have HUR := Lib.hid hu; have HB3 := Lib.hid hb3; obtain ⟨pR, cR, hRe, hr1', hr2', hr3⟩ := ri_form (Mine.ri (OW.mine hu) (by rw [← HRN.out]; have := HRDL.out; omega)); rw [ints_len] at hRe hr1' hr2' hr3; subst hRe; have HR3 := Lib.hid hr3; clear hu hb3 hr3) | fail)
          have hs1a : Wk.heap.size + 1 ≤ W1.heap.size := by rw [HS1.out]; omega
          have hs1b : W1.heap.size ≤ Wk.heap.size + 1 := by rw [HS1.out]; omega
          have hs2a : W1.heap.size + 1 ≤ W2.heap.size := by rw [HS2.out]; omega
          have hs2b : W2.heap.size ≤ W1.heap.size + 1 := by rw [HS2.out]; omega
          have hr16 : F.regs.toNat ≤ 65536 := by omega
          have hn64 : F.regs.toNat ≤ 64 * s := by rw [← HS.out]; omega
          have hs3 := HB3.out.size
          have hul : ∀ g, (Value.slice pR (readsN F k).length cR).ownBlock = some g → W2.heap.size ≤ g ∧ g < W3.heap.size := fun g hg => OW.lt HUR.out hg
          have hrl : (readsN F k).length ≤ 17592186043906 := by
            have h := HRDL.out
            have h2 := congrArg List.length HRN.out
            rw [ints_len] at h2
            rw [← h2]; omega
          have HRR := Lib.hid (fun q (hq : q ∈ readsN F k) => HSF.out.gr.reads_lt k hlt q hq)
          clear hs1 e0 e1 e2 e3 e4 e5 e6 hc8 hcat
          go_loopw [54] (fun s54 W => ∃ j : Nat, s54 = .int .i64 j ∧ j ≤ (readsN F k).length ∧ LkX r F (.slice (some ⟨bI, oI, none⟩) F.ins.length c) (.slice p2 F.regions.length c2) (Y.wr (fun x => if x = k then W1.heap.size else ρ x)) F.ins.length (k + 1) s w.heap.size none W2.heap.size tg2 FV (ffAll F k) (.slice none 0 0) W ((rowsR F s).set k (((readsN F k).take j).foldl setW (List.replicate s 0))) (List.replicate F.ins.length false) [] (List.replicate s 0) ∧ Kw (fun b => b ≠ W1.heap.size) W3 W) (fun s54 _ => (readsN F k).length - (intOf s54).toNat)
          case atStart => exact ⟨0, rfl, Nat.zero_le _, H2.out.below HB3.out, Kw.refl _ _⟩
          case round =>
            obtain ⟨j, rfl, hj, h4, hk4⟩ := hrel
            by_cases hltj : j < (readsN F k).length
            · obtain ⟨gu, ou, rfl, hcu⟩ := HR3.out (by omega)
              obtain ⟨q, hq⟩ : ∃ q, (readsN F k).getD j 0 = q := ⟨_, rfl⟩
              have hqr : q < F.regs.toNat := HRR.out q (by rw [← hq]; exact getD_mem hltj)
              have hgu := hul gu rfl
              have hcq := (World.cell?_of_block (a := ⟨gu, ou + j, none⟩) (hk4.block gu (by omega) hgu.2)).trans (hcu j hltj)
              rw [ints_getD, hq] at hcq
              have hjz : (j : Int) < ((readsN F k).length : Int) := by omega
              have hkp : ∀ g, g < W2.heap.size → g ≠ W1.heap.size → wr.heap[g]? = W2.heap[g]? := fun g hg hne => (hk4.block g hne (by omega)).trans (HB3.out.block g hg)
              have hc6 : wr.cell? ⟨b6, 0, none⟩ = some (.pointer (some ⟨Y.bl, 0, none⟩)) := (World.cell?_of_block (a := ⟨b6, 0, none⟩) (hkp b6 HX6.out.lt (by omega))).trans HX6.out.cell
              have hcat : wr.cell? ⟨Wk.heap.size, 0, none⟩ = some (.int .i64 k) := (World.cell?_of_block (a := ⟨Wk.heap.size, 0, none⟩) (hkp Wk.heap.size (by omega) (by omega))).trans HXA.out.cell
              have hcL : wr.cell? ⟨Y.bl, 10, none⟩ = some (.slice (some ⟨Y.bL, 0, none⟩) F.ins.length F.ins.length) := (h4.lk (fun e => by cases e)).cell rfl
              have hcLk : wr.cell? ⟨Y.bL, k, none⟩ = some (.slice (some ⟨W1.heap.size, 0, none⟩) s s) := by
                have h := (h4.live (fun e => by cases e)).cell (liveC_at (Y.wr (fun x => if x = k then W1.heap.size else ρ x)) (m := k + 1) (by omega) hlt)
                simpa [Lay.wr] using h
              have hrow := h4.row k (by omega) (fun e => by cases e)
              rw [getD_setL _ _ _ _ _ (by rw [rowsR_len]; exact hlt), if_pos rfl, show (Y.wr (fun x => if x = k then W1.heap.size else ρ x)).rho k = W1.heap.size from if_pos rfl] at hrow
              have hrl2 : (((readsN F k).take j).foldl setW (List.replicate s 0)).length = s := by rw [set_len]; simp
              obtain ⟨qd, hqd⟩ : ∃ qd, q / 64 = qd := ⟨_, rfl⟩
              obtain ⟨qm, hqm⟩ : ∃ qm, q % 64 = qm := ⟨_, rfl⟩
              have hqs : qd < s := by omega
              have hm64 : qm < 64 := by omega
              have hcw := hrow.word (i := qd) (by omega)
              have hfw := hrow.frozen qd
              have hd64 := (OkW.setAll ((readsN F k).take j) (OkW.zero s)).lt qd
              obtain ⟨dw, hdw⟩ : ∃ dw, (((readsN F k).take j).foldl setW (List.replicate s 0)).getD qd 0 = dw := ⟨_, rfl⟩
              rw [hdw] at hcw hd64
              have eqz : (qd : Int) < (s : Int) := by omega
              have eq1 : IntKind.i64.wrap ((q : Int) / 64) = (qd : Int) := by rw [IntWalk.i64_in _ (by omega)]; omega
              have eq2 : (q : Int).tmod 64 = (qm : Int) := by rw [Int.tmod_eq_emod_of_nonneg (by omega)]; omega
              have eq4 := set_word' hd64 hm64
              obtain ⟨nw, hnw⟩ : ∃ nw, dw ||| 2 ^ qm = nw := ⟨_, rfl⟩
              rw [hnw] at eq4
              have HST := Lib.hid (set_step hltj hq hqd hqm hdw hnw)
              have h5 := h4.setRow (x := k) (by omega) (by rw [List.length_set, rowsR_len]; exact hlt) qd nw
              rw [getD_setL _ _ _ _ _ (by rw [rowsR_len]; exact hlt), if_pos rfl, List.set_set, ← HST.out, show (Y.wr (fun x => if x = k then W1.heap.size else ρ x)).rho k = W1.heap.size from if_pos rfl] at h5
              have H5 := Lib.hid h5
              have HK4 := Lib.hid hk4
              clear h4 h5 hk4 hrow hdw hcu hrl2 hqd hqm hnw hd64 hq hkp
              go_wp2_with fail
              refine wp_region_still_tail' 16 (by kernel_rfl) (by kernel_rfl) ?_
              simp only [List.take_succ_cons, List.take_zero, List.drop_succ_cons, List.drop_zero]
              repeat still_step
              refine wpStill_nil ?_
              go_wp2_with fail
              go_roundw
              case rel => exact ⟨j + 1, by go_num, by omega, H5.out.below (Below.refl _ _).drew, (HK4.out.setCell _ _ (fun h => h rfl)).trans (Kw.all (Below.refl _ _).drew)⟩
              case measure => simp [intOf]; omega
            · have hje : j = (readsN F k).length := by omega
              have hjz : ¬ (j : Int) < ((readsN F k).length : Int) := by omega
              rw [hje, List.take_length] at h4
              have hrr : (rowsR F s).set k ((readsN F k).foldl setW (List.replicate s 0)) = rowsR F s := by
                have h := rowsR_at (F := F) (s := s) hlt
                unfold rowR at h
                rw [← h, set_getD_self]
              rw [hrr] at h4
              have hkp : ∀ g, g < W2.heap.size → g ≠ W1.heap.size → wr.heap[g]? = W2.heap[g]? := fun g hg hne => (hk4.block g hne (by omega)).trans (HB3.out.block g hg)
              have hx0' : Box10 wr w.heap.size r F (.slice (some ⟨bI, oI, none⟩) F.ins.length c) (.slice p2 F.regions.length c2) := HX0.out.block (hkp _ (by have := HX0.out.lt; omega) (by omega))
              have hx6' : Boxed wr b6 69 (.pointer (some ⟨Y.bl, 0, none⟩)) := (hkp _ HX6.out.lt (by omega)).trans HX6.out
              have hxa' : Boxed wr Wk.heap.size 3 (.int .i64 k) := (hkp _ HXA.out.lt (by omega)).trans HXA.out
              have hlow4 : Below w.heap.size w wr := HLW2.out.trans ((HB3.out.mono HLW2.out.size).trans (hk4.below (by have := HLW2.out.size; omega) fun b hb => by omega))
              have hsz4 : W2.heap.size ≤ wr.heap.size := Nat.le_trans hs3 hk4.size
              obtain ⟨q0, q1, q2, q3, q4, q5, q6, q7, q8, q9⟩ := hx0'
              have hcat := hxa'.cell
              have hxs : ∀ D ∈ ([] : List Nat), True := fun _ _ => trivial
              have H4 := Lib.hid h4
              have HKP := Lib.hid hkp
              have HX0' := Lib.hid (show Box10 wr w.heap.size r F (.slice (some ⟨bI, oI, none⟩) F.ins.length c) (.slice p2 F.regions.length c2) from ⟨q0, q1, q2, q3, q4, q5, q6, q7, q8, q9⟩)
              have HX6' := Lib.hid hx6'
              have HXA' := Lib.hid hxa'
              have HLW4 := Lib.hid hlow4
              have HRW := Lib.hid hrr
              have HEA := each_any r F (.slice (some ⟨bI, oI, none⟩) F.ins.length c) (.slice p2 F.regions.length c2) k
              unfold funcV at HEA
              have HEE := Lib.hid HEA
              clear h4 hk4 hkp hx6' hxa' hlow4 hxs hje hrr HEA
              go_wp2_with (first | (go_at_call 49; (with_reducible refine (HEE.out _).mono ?_); rintro e w9' ⟨rfl, rfl⟩) | fail)
              obtain ⟨WL, hWL⟩ : ∃ WL, (wr.alloc (.cells #[.string r.name, .int .i64 F.params, .int .i64 F.regs, .int .i64 r.frees, .bool r.gen, .int .i64 r.bound, .slice r.np r.nn r.nc, .slice r.cp r.cn r.cc, .slice (some ⟨bI, oI, none⟩) F.ins.length c, .slice p2 F.regions.length c2] 27)).alloc (.cells #[.int .i64 k] 3) = WL := ⟨_, rfl⟩
              have hsz : WL.heap.size = wr.heap.size + 2 := by rw [← hWL]; simp
              have hbl : Below wr.heap.size wr WL := by rw [← hWL]; ((repeat' (first | with_reducible assumption | with_reducible exact Below.refl _ _ | with_reducible refine Below.drew ?_ | with_reducible refine Below.alloc ?_ (by first | omega | (simp; omega) | (simp; done) | fail) _ | with_reducible refine Below.setCell ?_ (by first | omega | (simp; omega) | (simp; done) | fail) _ | fail)); (first | done | fail))
              have hbf : Box10 WL wr.heap.size r F (.slice (some ⟨bI, oI, none⟩) F.ins.length c) (.slice p2 F.regions.length c2) := by
                rw [← hWL]
                exact (Box10.new wr r F (.slice (some ⟨bI, oI, none⟩) F.ins.length c) (.slice p2 F.regions.length c2) 27).keep ((Below.refl _ _).alloc (Nat.le_refl _) _) (by simp)
              have hba : WL.cell? ⟨wr.heap.size + 1, 0, none⟩ = some (.int .i64 k) := by
                rw [← hWL]
                have := cell_new (w := wr.alloc (.cells #[.string r.name, .int .i64 F.params, .int .i64 F.regs, .int .i64 r.frees, .bool r.gen, .int .i64 r.bound, .slice r.np r.nn r.nc, .slice r.cp r.cn r.cc, .slice (some ⟨bI, oI, none⟩) F.ins.length c, .slice p2 F.regions.length c2] 27)) (cs := #[.int .i64 k]) (T := 3) (k := 0) rfl
                simp only [World.size_alloc] at this
                exact this
              rw [hWL]
              have HBL := Lib.hid hbl
              have HBF := Lib.hid hbf
              have HBAA := Lib.hid hba
              have hszA : wr.heap.size + 2 ≤ WL.heap.size := by omega
              have hszB : WL.heap.size ≤ wr.heap.size + 2 := by omega
              have hl6 := HX6.out.lt
              have hLl := HWK.out.l1
              have hx0l := HX0.out.lt
              clear hbl hbf hba hWL hsz q0 q1 q2 q3 q4 q5 q6 q7 q8 q9 hcat
              have hlwL : w.heap.size ≤ wr.heap.size := HLW4.out.size
              refine wp_rangeE (K := fun b => b < w.heap.size ∨ b = wr.heap.size ∨ b = wr.heap.size + 1) (It := ItW F k (WL.heap.size + 2)) (N := (waysD F k).length) (by rfl) (fun _ _ => enter_closure _ _) ?hseq ?hKs ?hps
                (RJX r F (.slice (some ⟨bI, oI, none⟩) F.ins.length c) (.slice p2 F.regions.length c2) s w WL (Y.wr (fun x => if x = k then W1.heap.size else ρ x)) k tg2) ?hJ ?hIt ?h0 ?hround ?hdone
              case hseq =>
                intro W hk hs
                have h := each_gives r F _ _ k w W wr.heap.size (wr.heap.size + 1) (fun b => b < w.heap.size ∨ b = wr.heap.size ∨ b = wr.heap.size + 1) HU.out HI.out HR.out hlt ((HLW4.out.trans (HBL.out.mono hlwL)).trans (hk.below (by omega) fun _ _ => trivial)) (fun b hb => .inl hb) (.inr (.inl rfl)) (.inr (.inr rfl)) (HBF.out.block (hk.block _ trivial (by omega))) ((World.cell?_of_block (a := ⟨wr.heap.size + 1, 0, none⟩) (hk.block (wr.heap.size + 1) trivial (by omega))).trans HBAA.out)
                rwa [hs] at h
              case hKs => intro b hb; omega
              case hps => rintro i A args ⟨u, rfl, _⟩; rfl
              case hJ =>
                rintro E j A B hE ⟨tg, FV', h1, h2, h3, h4, h5, h6⟩ hk
                refine ⟨tg, FV', ((h1.keep1 hk.size fun g _ hg ht => hk.block g ?_ hg).up hk.size (Nat.le_refl _)), fun g hg ht => ⟨(h2 g hg ht).1, (hk.block g (by omega) (by omega)).trans (h2 g hg ht).2⟩, h3, fun g hg => h4 g (by have := hk.size; omega), h5.trans (hk.below h5.size fun b hb => by omega), Nat.le_trans h6 hk.size⟩
                have hlo : Y.bL < WL.heap.size := by omega
                constructor
                · intro e; have := ht (h3 g (by omega) (by omega)); rw [this] at e; exact absurd e (Nat.ne_of_lt hlo)
                · intro e; have := ht (h3 g (by omega) (by omega)); rw [this] at e; exact absurd e (by show Y.bL ≠ _; omega)
              case hIt =>
                rintro j A B args ⟨u, rfl, hu⟩ hk
                exact ⟨u, rfl, OW.kw hu hk (fun g hg => by have := OW.lt hu hg; omega)⟩
              case h0 =>
                intro E
                exact ⟨tg2, FV, ((H4.out.below (HBL.out.mono (by have := H4.out.hH; omega))).up (by omega) (Nat.le_refl _)), fun g _ ht => ⟨ht, rfl⟩, fun g hg _ => HHI2.out g (by omega), fun g hg => HHI2.out g (by omega), HLW4.out.trans (HBL.out.mono hlwL), Nat.le_refl _⟩
              case hround =>
                rintro l E j args A hE hEA hjN hj ⟨u, rfl, hu⟩
                obtain ⟨tw, ws, hwN, hwD, hto, hws⟩ := HSF.out.at_ hlt hjN
                rw [hwD] at hu ⊢
                have HPF := Lib.hid (take_fold (by rw [waysN_len]; exact hjN) hwN (pushF k) (ffAll F k))
                clear hj hu hwN hwD hws hjN
                gi_wp2
                (try refine ⟨trivial, ?_⟩)
                intro A5 hEA5 hj hit
                obtain ⟨tg, FV', h1, h2, h3, h4, h5, h6⟩ := hj
                have hl6' : b6 < WL.heap.size := by omega
                have hc6 : A5.cell? ⟨b6, 0, none⟩ = some (.pointer (some ⟨Y.bl, 0, none⟩)) := (World.cell?_of_block (a := ⟨b6, 0, none⟩) ((h2 b6 hl6' HT2.out.2.1).2.trans (HBL.out.block b6 (by omega)))).trans HX6'.out.cell
                have hcat : A5.cell? ⟨Wk.heap.size, 0, none⟩ = some (.int .i64 k) := (World.cell?_of_block (a := ⟨Wk.heap.size, 0, none⟩) ((h2 Wk.heap.size (by omega) HT2.out.2.2).2.trans (HBL.out.block Wk.heap.size (by omega)))).trans HXA'.out.cell
                have hcF : A5.cell? ⟨Y.bl, 11, none⟩ = some (.slice (some ⟨Y.bF, 0, none⟩) F.ins.length F.ins.length) := (h1.lk (fun e => by cases e)).cell rfl
                have hfrm := h1.from_ (fun e => by cases e)
                have hfF := hfrm.frozen tw
                have hcFt : A5.cell? ⟨Y.bF, tw, none⟩ = some (FV' tw) := hfrm.cell (by rw [List.getElem?_map, List.getElem?_range hto]; rfl)
                have hown := h1.frow tw hto (fun e => by cases e)
                obtain ⟨pv, cv, hve⟩ := own_form hown
                rw [hve] at hcFt
                have hlen : (ints ((((waysN F k).take j).foldl (pushF k) (ffAll F k)) tw)).length ≤ 8796093022208 := by
                  rw [ints_len]
                  have g1 := len_le_lens (FF := ((waysN F k).take j).foldl (pushF k) (ffAll F k)) F.ins.length hto
                  have g2 := lens_pushes k F.ins.length ((waysN F k).take j) (ffAll F k)
                  have g3 := lens_all F F.ins.length k
                  have g4 : ((waysN F k).take j).length ≤ 3 := by rw [List.length_take, waysN_len]; have := waysD_le F k; omega
                  omega
                have htz : (tw : Int) < (F.ins.length : Int) := by omega
                have hb0F : A5.heap.size = A5.heap.size := rfl
                have hLF := h1.tgs.l2
                have hL0 := h1.tgs.l0
                have H15 := Lib.hid (h1.below (Below.refl A5.heap.size A5).drew)
                have HVE := Lib.hid hve
                have HOW := Lib.hid hown
                have HFR := Lib.hid h2
                have HFS := Lib.hid h3
                have HHI := Lib.hid h4
                have HLO := Lib.hid h5
                clear h1 h2 h3 h4 h5 hfrm hown hve hit hb0F
                generalize (((waysN F k).take j).foldl (pushF k) (ffAll F k)) = FFj at H15 HPF HOW hlen hcFt HVE
                gi_wp2
                refine wpIn_region_anyT (l := l) (S := fun A' => A'.cell? ⟨b6, 0, none⟩ = some (.pointer (some ⟨Y.bl, 0, none⟩)) ∧ A'.cell? ⟨Wk.heap.size, 0, none⟩ = some (.int .i64 k) ∧ A'.cell? ⟨Y.bl, 11, none⟩ = some (.slice (some ⟨Y.bF, 0, none⟩) F.ins.length F.ins.length) ∧ A'.cell? ⟨Y.bF, tw, none⟩ = some (.slice pv (ints (FFj tw)).length cv)) 16 (by kernel_rfl) ⟨by kernel_rfl, by kernel_rfl, by kernel_rfl, by kernel_rfl, by decide⟩ ⟨hc6, hcat, hcF, hcFt⟩ ?_
                simp only [List.drop_succ_cons, List.drop_zero]
                intro hh inv hS0
                refine anyT_take hh inv (i := 0) (v := ?_) rfl (by decide) (by kernel_rfl) (by kernel_rfl) (fun _ _ _ h => h) (Or.inl ⟨by rfl, ?_⟩) (by assumption) ?_
                rotate_left 1
                · intro w' hSw
                  (try dsimp only at hSw)
                  go_simp
                  (try with_reducible rfl)
                intro inv
                (try simp only [List.getElem_toArray, List.getElem_cons_succ, List.getElem_cons_zero, Act.put, List.setIfInBounds_toArray, List.set_cons_zero, List.set_cons_succ])
                refine anyT_take hh inv (i := 1) (v := ?_) rfl (by decide) (by kernel_rfl) (by kernel_rfl) (fun _ _ _ h => h) (Or.inl ⟨by rfl, ?_⟩) (by assumption) ?_
                rotate_left 1
                · intro w' hSw
                  (try dsimp only at hSw)
                  go_simp
                  (try with_reducible rfl)
                intro inv
                (try simp only [List.getElem_toArray, List.getElem_cons_succ, List.getElem_cons_zero, Act.put, List.setIfInBounds_toArray, List.set_cons_zero, List.set_cons_succ])
                refine anyT_take hh inv (i := 2) (v := ?_) rfl (by decide) (by kernel_rfl) (by kernel_rfl) (fun _ _ _ h => h) (Or.inl ⟨by rfl, ?_⟩) (by assumption) ?_
                rotate_left 1
                · intro w' hSw
                  (try dsimp only at hSw)
                  go_simp
                  (try with_reducible rfl)
                intro inv
                (try simp only [List.getElem_toArray, List.getElem_cons_succ, List.getElem_cons_zero, Act.put, List.setIfInBounds_toArray, List.set_cons_zero, List.set_cons_succ])
                refine anyT_take hh inv (i := 3) (v := ?_) rfl (by decide) (by kernel_rfl) (by kernel_rfl) (fun _ _ _ h => h) (Or.inl ⟨by rfl, ?_⟩) (by assumption) ?_
                rotate_left 1
                · intro w' hSw
                  (try dsimp only at hSw)
                  go_simp
                  (try with_reducible rfl)
                intro inv
                (try simp only [List.getElem_toArray, List.getElem_cons_succ, List.getElem_cons_zero, Act.put, List.setIfInBounds_toArray, List.set_cons_zero, List.set_cons_succ])
                refine anyT_take hh inv (i := 4) (v := ?_) rfl (by decide) (by kernel_rfl) (by kernel_rfl) (fun _ _ _ h => h) (Or.inl ⟨by rfl, ?_⟩) (by assumption) ?_
                rotate_left 1
                · intro w' hSw
                  (try dsimp only at hSw)
                  go_simp
                  (try with_reducible rfl)
                intro inv
                (try simp only [List.getElem_toArray, List.getElem_cons_succ, List.getElem_cons_zero, Act.put, List.setIfInBounds_toArray, List.set_cons_zero, List.set_cons_succ])
                refine anyT_take hh inv (i := 5) (v := ?_) rfl (by decide) (by kernel_rfl) (by kernel_rfl) (fun _ _ _ h => h) (Or.inl ⟨by rfl, ?_⟩) (by assumption) ?_
                rotate_left 1
                · intro w' hSw
                  (try dsimp only at hSw)
                  go_simp
                  (try with_reducible rfl)
                intro inv
                (try simp only [List.getElem_toArray, List.getElem_cons_succ, List.getElem_cons_zero, Act.put, List.setIfInBounds_toArray, List.set_cons_zero, List.set_cons_succ])
                refine anyT_take hh inv (i := 6) (v := ?_) rfl (by decide) (by kernel_rfl) (by kernel_rfl) (fun _ _ _ h => h) (Or.inl ⟨by rfl, ?_⟩) (by assumption) ?_
                rotate_left 1
                · intro w' hSw
                  (try dsimp only at hSw)
                  go_simp
                  (try with_reducible rfl)
                intro inv
                (try simp only [List.getElem_toArray, List.getElem_cons_succ, List.getElem_cons_zero, Act.put, List.setIfInBounds_toArray, List.set_cons_zero, List.set_cons_succ])
                refine anyT_take hh inv (i := 7) (v := ?_) rfl (by decide) (by kernel_rfl) (by kernel_rfl) (fun _ _ _ h => h) (Or.inl ⟨by rfl, ?_⟩) (by assumption) ?_
                rotate_left 1
                · intro w' hSw
                  (try dsimp only at hSw)
                  go_simp
                  (try with_reducible rfl)
                intro inv
                (try simp only [List.getElem_toArray, List.getElem_cons_succ, List.getElem_cons_zero, Act.put, List.setIfInBounds_toArray, List.set_cons_zero, List.set_cons_succ])
                refine anyT_take hh inv (i := 8) (v := ?_) rfl (by decide) (by kernel_rfl) (by kernel_rfl) (fun _ _ _ h => h) (Or.inl ⟨by rfl, ?_⟩) (by assumption) ?_
                rotate_left 1
                · intro w' hSw
                  (try dsimp only at hSw)
                  go_simp
                  (try with_reducible rfl)
                intro inv
                (try simp only [List.getElem_toArray, List.getElem_cons_succ, List.getElem_cons_zero, Act.put, List.setIfInBounds_toArray, List.set_cons_zero, List.set_cons_succ])
                refine anyT_take hh inv (i := 9) (v := ?_) rfl (by decide) (by kernel_rfl) (by kernel_rfl) (fun _ _ _ h => h) (Or.inl ⟨by rfl, ?_⟩) (by assumption) ?_
                rotate_left 1
                · intro w' hSw
                  (try dsimp only at hSw)
                  go_simp
                  (try with_reducible rfl)
                intro inv
                (try simp only [List.getElem_toArray, List.getElem_cons_succ, List.getElem_cons_zero, Act.put, List.setIfInBounds_toArray, List.set_cons_zero, List.set_cons_succ])
                refine anyT_take hh inv (i := 10) (v := ?_) rfl (by decide) (by kernel_rfl) (by kernel_rfl) (fun _ _ _ h => h) (Or.inl ⟨by rfl, ?_⟩) (by assumption) ?_
                rotate_left 1
                · intro w' hSw
                  (try dsimp only at hSw)
                  go_simp
                  (try with_reducible rfl)
                intro inv
                (try simp only [List.getElem_toArray, List.getElem_cons_succ, List.getElem_cons_zero, Act.put, List.setIfInBounds_toArray, List.set_cons_zero, List.set_cons_succ])
                refine anyT_take hh inv (i := 11) (v := ?_) rfl (by decide) (by kernel_rfl) (by kernel_rfl) (fun _ _ _ h => h) (Or.inl ⟨by rfl, ?_⟩) (by assumption) ?_
                rotate_left 1
                · intro w' hSw
                  (try dsimp only at hSw)
                  go_simp
                  (try with_reducible rfl)
                intro inv
                (try simp only [List.getElem_toArray, List.getElem_cons_succ, List.getElem_cons_zero, Act.put, List.setIfInBounds_toArray, List.set_cons_zero, List.set_cons_succ])
                refine anyT_take hh inv (i := 12) (v := ?_) rfl (by decide) (by kernel_rfl) (by kernel_rfl) (fun _ _ _ h => h) (Or.inl ⟨by rfl, ?_⟩) (by assumption) ?_
                rotate_left 1
                · intro w' hSw
                  (try dsimp only at hSw)
                  go_simp
                  (try with_reducible rfl)
                intro inv
                (try simp only [List.getElem_toArray, List.getElem_cons_succ, List.getElem_cons_zero, Act.put, List.setIfInBounds_toArray, List.set_cons_zero, List.set_cons_succ])
                refine anyT_one inv (i := 13) rfl rfl (by kernel_rfl) (by decide) (fun inv KK hK => ?_)
                go_simp
                refine hK.out _ _ ⟨alloc_cell hc6 _, alloc_cell hcat _, alloc_cell hcF _, alloc_cell hcFt _⟩ (fun hHeld => ?_)
                clear hK KK
                (try simp only [List.getElem_toArray, List.getElem_cons_succ, List.getElem_cons_zero, Act.put, List.setIfInBounds_toArray, List.set_cons_zero, List.set_cons_succ])
                refine anyT_one inv (i := 14) rfl rfl (by kernel_rfl) (by decide) (fun inv KK hK => ?_)
                have how2 : OI A5 w.heap.size (.slice pv (ints (FFj tw)).length cv) (ints (FFj tw)) := by rw [← HVE.out]; exact HOW.out
                refine wpIn_app (l := l) (.tmp 91) (.tmp 93) rfl Tryd.underlying31 infoInt rfl rfl (v := .slice pv (ints (FFj tw)).length cv) (base := w.heap.size) (n := (ints (FFj tw)).length) (m := 1) (xs := (ints (FFj tw)).map (Value.int .i64)) (news := [.int .i64 k]) (OW.keep how2 (((Below.refl _ _).alloc (Nat.le_refl _) _).drew)) rfl (by exact src_one (w := A5) rfl) (by simp [Value.oneCell']) (by unfold maxLen; omega) (by omega) (by have := HLO.out.size; simp; omega) ?_
                intro v' w1 hap
                have hne : ∀ g, tg g ≠ 7 + 2 * tw → some g ≠ (Value.slice pv (ints (FFj tw)).length cv).ownBlock := fun g ht e => ht ((H15.out.tgs.frow tw hto g (by rw [HVE.out]; exact e.symm)).1)
                have hk1 : ∀ g, g < A5.heap.size → tg g ≠ 7 + 2 * tw → w1.heap[g]? = A5.heap[g]? := fun g hg ht => (hap.grown.block g (by simp; omega) (hne g ht)).trans (Below.heap_alloc _ _ _ hg)
                have ht6' : tg b6 = 1 := (HFR.out b6 hl6' HT2.out.2.1).1
                have hta' : tg Wk.heap.size = 1 := (HFR.out Wk.heap.size (by omega) HT2.out.2.2).1
                have htl' : tg Y.bl = 0 := H15.out.tgs.b0
                have htF' : tg Y.bF = 2 := H15.out.tgs.b2
                have hlo5 := World.block_lt_of_cell? A5 _ hc6
                have hloa := World.block_lt_of_cell? A5 _ hcat
                have hlol := World.block_lt_of_cell? A5 _ hcF
                have hloF := World.block_lt_of_cell? A5 _ hcFt
                dsimp only at hlo5 hloa hlol hloF
                have hcFt1 : w1.cell? ⟨Y.bF, tw, none⟩ = some (.slice pv (ints (FFj tw)).length cv) := (World.cell?_of_block (a := ⟨Y.bF, tw, none⟩) (hk1 Y.bF hloF (by omega))).trans hcFt
                have hfF1 : w1.frozen? ⟨Y.bF, tw, none⟩ = false := (World.frozen?_of_block (a := ⟨Y.bF, tw, none⟩) (hk1 Y.bF hloF (by omega))).trans hfF
                refine hK.out _ _ ⟨(World.cell?_of_block (a := ⟨b6, 0, none⟩) (hk1 b6 hlo5 (by omega))).trans hc6, (World.cell?_of_block (a := ⟨Wk.heap.size, 0, none⟩) (hk1 Wk.heap.size hloa (by omega))).trans hcat, (World.cell?_of_block (a := ⟨Y.bl, 11, none⟩) (hk1 Y.bl hlol (by omega))).trans hcF, hcFt1⟩ (fun hHeld2 => ?_)
                clear hK KK
                obtain ⟨pv', cv', rfl⟩ := own_form (own_apd hap)
                have HAP := Lib.hid hap
                have HK1 := Lib.hid hk1
                have HNE := Lib.hid hne
                clear hap hk1 hne
                (try simp only [List.getElem_toArray, List.getElem_cons_succ, List.getElem_cons_zero, Act.put, List.setIfInBounds_toArray, List.set_cons_zero, List.set_cons_succ])
                refine anyT_take hh inv (i := 15) (v := ?_) rfl (by decide) (by kernel_rfl) (by kernel_rfl) (fun _ _ _ h => h) (Or.inl ⟨by rfl, ?_⟩) (by assumption) ?_
                rotate_left 1
                · intro w' hSw
                  (try dsimp only at hSw)
                  go_simp
                  (try with_reducible rfl)
                intro inv
                (try simp only [List.getElem_toArray, List.getElem_cons_succ, List.getElem_cons_zero, Act.put, List.setIfInBounds_toArray, List.set_cons_zero, List.set_cons_succ])
                refine ⟨by kernel_rfl, ?_⟩
                gi_wp2
                have hp := H15.out.pushFrom (x := k) (o := .cells #[.int .i64 k] 3) (B := w1) hto (by rw [HVE.out]; exact HAP.out)
                rw [show (ints (FFj tw) ++ [(k : Int)]).length = (ints (FFj tw)).length + 1 from by simp] at hp
                obtain ⟨hp1, hp2⟩ := hp
                have hbA : Below w.heap.size A5 (w1.setCell ⟨Y.bF, tw, none⟩ (.slice pv' ((ints (FFj tw)).length + 1) cv')) := ((((Below.refl w.heap.size A5).alloc HLO.out.size _).drew).trans (HAP.out.below (by have := HLO.out.size; simp; omega) (fun g hg => (H15.out.tgs.frow tw hto g (by rw [HVE.out]; exact hg)).2.1))).setCell hLF.1 _
                obtain ⟨tgf, htf1, htf2⟩ : ∃ t : Nat → Nat, (∀ b, b < (w1.setCell ⟨Y.bF, tw, none⟩ (.slice pv' ((ints (FFj tw)).length + 1) cv')).heap.size → t b = tagAt tg (A5.drew.heap.size + 1) (7 + 2 * tw) b) ∧ ∀ b, (w1.setCell ⟨Y.bF, tw, none⟩ (.slice pv' ((ints (FFj tw)).length + 1) cv')).heap.size ≤ b → t b = 1 :=
                  ⟨fun b => if b < (w1.setCell ⟨Y.bF, tw, none⟩ (.slice pv' ((ints (FFj tw)).length + 1) cv')).heap.size then tagAt tg (A5.drew.heap.size + 1) (7 + 2 * tw) b else 1, fun b hb => if_pos hb, fun b hb => if_neg (by omega)⟩
                have hbs := hbA.size
                have hwr1 : tg wr.heap.size = 1 := (HFR.out wr.heap.size (by omega) (HHI2.out _ hsz4)).1
                have hwr2 : tg (wr.heap.size + 1) = 1 := (HFR.out (wr.heap.size + 1) (by omega) (HHI2.out _ (by omega))).1
                have hnk : ∀ g, w.heap.size ≤ g → tg g ≠ 1 → ¬ RoundK WL.heap.size (fun b => b < w.heap.size ∨ b = wr.heap.size ∨ b = wr.heap.size + 1) E g := fun g hg ht hr => by
                  rcases hr with h | h | h | h
                  · exact ht (HFS.out g (by omega) (by omega))
                  · exact ht (HFS.out g (by omega) (by omega))
                  · rcases h with h | h | h
                    · omega
                    · exact ht (by rw [h]; exact hwr1)
                    · exact ht (by rw [h]; exact hwr2)
                  · exact ht (HFS.out g (by omega) (by omega))
                refine ⟨⟨tgf, fun y => if y = tw then (.slice pv' ((ints (FFj tw)).length + 1) cv') else FV' y, ?_, fun g hg ht => ?_, fun g hg hgE => ?_, htf2, HLO.out.trans hbA, by omega⟩, ?_⟩
                · rw [HPF.out]
                  exact hp1.retag htf1
                · have h1 := HFR.out g hg ht
                  have h2 := hp2 g (by show g < A5.heap.size; omega) h1.1
                  exact ⟨by rw [htf1 g (by omega)]; exact h2.1, h2.2.trans h1.2⟩
                · rw [htf1 g (by omega), tagAt_lt (by show g < A5.heap.size + 1; omega)]
                  exact HFS.out g hg hgE
                · exact ((((Kw.refl _ A5).alloc _).trans (Kw.all (Below.refl _ _).drew)).grown HAP.out.grown (fun g hg => by
                    have h := H15.out.tgs.frow tw hto g (by rw [HVE.out]; exact hg)
                    exact hnk g h.2.1 (by rw [h.1]; omega))).setCell _ _ (hnk Y.bF hLF.1 (by rw [htF']; omega))
              case hdone =>
                intro E W hE hj hD
                obtain ⟨tg, FV', h1, h2, h3, h4, h5, h6⟩ := hj
                go_wp2_with fail
                go_roundg (F.ins.length - (k + 1))
                case measure => omega
                case rel =>
                  rw [show (waysN F k).take (waysD F k).length = waysN F k from by rw [← waysN_len, List.take_length], ← ffAll_succ] at h1
                  have hg0 := h2 w.heap.size (by omega) HT2.out.1
                  have hg6 := h2 b6 (by omega) HT2.out.2.1
                  refine ⟨k + 1, (fun x => if x = k then W1.heap.size else ρ x), tg, FV', rfl, by go_num, by omega, h1, h4, HX0'.out.block (hg0.2.trans (HBL.out.block _ (by omega))), ⟨hg0.1, HLK.out.t0.2⟩, hg6.2.trans ((HBL.out.block b6 (by omega)).trans HX6'.out), ⟨hg6.1, HLK.out.t6.2⟩, ?_, h5⟩
                  obtain ⟨Ds, hds, hnd, hD2⟩ := HLK.out.mks
                  have hlD : ∀ D ∈ Ds, D < Wk.heap.size := fun D hm => (Array.getElem?_eq_some_iff.1 (hD2 D hm).2.2).1
                  refine ⟨WL.heap.size :: Ds, by rw [hds]; rfl, List.nodup_cons.2 ⟨fun hm => by have := hlD _ hm; omega, hnd⟩, fun D hm => ?_⟩
                  rcases List.mem_cons.1 hm with rfl | hm
                  · exact ⟨by omega, h3 _ (Nat.le_refl _) (by omega), hD⟩
                  · have hl := hlD D hm
                    obtain ⟨d1, d2, d3⟩ := hD2 D hm
                    have hne : D ≠ Y.bL := fun e => by
                      have := (HLK.out.st.live (fun e => by cases e)).cells
                      exact this (by rw [← d3, e]; rfl)
                    have hk := HK2.out D (by omega) d2
                    have hg := h2 D (by omega) hk.1
                    exact ⟨d1, hg.1, (((hg.2.trans (HBL.out.block D (by omega))).trans (HKP.out D (by omega) (by omega))).trans (hk.2 hne)).trans ((HB1.out.block D hl).trans d3)⟩
        · have hkn : k = F.ins.length := by omega
          subst hkn
          have HSS := Lib.hid (show s = (grOf F).s from HS.out.symm)
          have ht6' := hl.t6
          have hx6' := hl.x6.lt
          clear hl
          have hA0 : (List.range F.ins.length).map (fun i => decide (F.ins.length - 0 ≤ i)) = List.replicate F.ins.length false := (congrArg Prod.fst (wait_all F.ins.length 0 (Nat.zero_le _))).symm
          have HA0 := Lib.hid hA0
          clear hA0
          go_wp2_with fail
          go_loopw [11] (fun s11 W => ∃ (j : Nat) (tg : Nat → Nat) (wv : Value), s11 = .int .i64 ((F.ins.length : Int) - 1 - j) ∧ j ≤ F.ins.length ∧ LkX r F (.slice p F.ins.length c) (.slice p2 F.regions.length c2) (Y.wr ρ) F.ins.length F.ins.length s w.heap.size none W.heap.size tg FV (ffAll F F.ins.length) wv W (rowsR F s) ((List.range F.ins.length).map (fun i => decide (F.ins.length - j ≤ i))) ((List.range j).map (fun i => F.ins.length - 1 - i)) (List.replicate s 0) ∧ Fr tgk tg Wk W ∧ Below w.heap.size Wk W) (fun s11 _ => (intOf s11 + 1).toNat)
          case atStart =>
            refine ⟨0, tgk, .slice none 0 0, by simp, Nat.zero_le _, ?_, Fr.refl _ _, Below.refl _ _⟩
            rw [HA0.out]
            exact HLK.out.st
          case round =>
            obtain ⟨j, tgj, wvj, rfl, hj, h4, hf4, hb4⟩ := hrel
            by_cases hltj : j < F.ins.length
            · obtain ⟨x, hx⟩ : ∃ x, F.ins.length - 1 - j = x := ⟨_, rfl⟩
              have hxe : ((F.ins.length : Int) - 1 - (j : Int)) = (x : Int) := by omega
              simp only [hxe]
              have hxz : (x : Int) ≥ 0 := by omega
              have hxn : x < 1048576 := by omega
              have hc6 : wr.cell? ⟨b6, 0, none⟩ = some (.pointer (some ⟨Y.bl, 0, none⟩)) := (World.cell?_of_block (a := ⟨b6, 0, none⟩) (hf4 b6 hx6' ht6'.1).2).trans hb6c
              have hst : wait1 ((List.range F.ins.length).map (fun i => decide (F.ins.length - j ≤ i)), (List.range j).map (fun i => F.ins.length - 1 - i)) (F.ins.length - 1 - j) = ((List.range F.ins.length).map (fun i => decide (F.ins.length - (j + 1) ≤ i)), (List.range (j + 1)).map (fun i => F.ins.length - 1 - i)) := by
                rw [← wait_all F.ins.length j hj, ← wait_all F.ins.length (j + 1) (by omega), List.range_succ, List.map_append, List.foldl_append]
                rfl
              have HWA := wait_any h4 (by simp) (x := x) (by omega) hnn (by simp; omega)
              rw [← hx, hst, hx] at HWA
              change Calls _ _ #[.pointer (some ⟨Y.bl, 0, none⟩), .int .i64 (x : Int)] _ _ at HWA
              have HWQ := Lib.hid HWA
              have HF4 := Lib.hid hf4
              have HB4 := Lib.hid hb4
              have hsz4 := hb4.size
              clear h4 hf4 hb4 hst HWA
              go_wp2_with (first | (go_at_call 50; (with_reducible refine HWQ.out.mono ?_); rintro e W3 ⟨⟨v, rfl⟩, hq9, hb9⟩; have HQ9 := Lib.hid hq9; have HB9 := Lib.hid hb9; clear hq9 hb9) | fail)
              go_roundw
              case rel =>
                obtain ⟨tg9, wv9, h9, hf9⟩ := HQ9.out
                exact ⟨j + 1, tg9, wv9, by go_num, by omega, h9, HF4.out.trans hf9 hsz4, HB4.out.trans HB9.out⟩
              case measure => simp [intOf]
            · have hjn : j = F.ins.length := by omega
              subst hjn
              have hjz : ¬ ((F.ins.length : Int) - 1 - (F.ins.length : Int)) ≥ 0 := by omega
              have hA1 : (List.range F.ins.length).map (fun i => decide (F.ins.length - F.ins.length ≤ i)) = List.replicate F.ins.length true := by
                refine List.ext_getElem (by simp) fun i h1 h2 => by simp
              rw [hA1] at h4
              have H4 := Lib.hid h4
              have HF4 := Lib.hid hf4
              have HB4 := Lib.hid hb4
              clear h4 hf4 hb4 hA1
              go_wp2_with fail
              have hC : F.ins.length + 64 * (grOf F).s * lens (ffAll F F.ins.length) F.ins.length ≤ 1000000000000 := by
                rw [← HSS.out]
                have h1 := lens_all F F.ins.length F.ins.length
                have h2 : 64 * s * lens (ffAll F F.ins.length) F.ins.length ≤ 65536 * 3145728 := Nat.mul_le_mul (by omega) (by omega)
                omega
              have HC := Lib.hid hC
              obtain ⟨C, hCe⟩ : ∃ C, F.ins.length + 64 * (grOf F).s * lens (ffAll F F.ins.length) F.ins.length = C := ⟨_, rfl⟩
              have HIV := Lib.hid (show Inv (grOf F) (ffAll F F.ins.length) C (rowsR F s) (List.replicate F.ins.length true) ((List.range F.ins.length).map (fun i => F.ins.length - 1 - i)) 0 from by rw [← hCe]; exact inv_start HSF.out HSS.out)
              rw [hCe] at hC
              clear hCe
              go_loopw [12] (fun s12 W => ∃ (kk : Nat) (tg : Nat → Nat) (wv : Value) (L : List (List Nat)) (wt : List Bool) (work sc : List Nat), s12 = .int .i64 kk ∧ sc.length = s ∧ Inv (grOf F) (ffAll F F.ins.length) C L wt work kk ∧ LkX r F (.slice p F.ins.length c) (.slice p2 F.regions.length c2) (Y.wr ρ) F.ins.length F.ins.length s w.heap.size none W.heap.size tg FV (ffAll F F.ins.length) wv W L wt work sc ∧ Fr tgk tg Wk W ∧ Below w.heap.size Wk W) (fun s12 _ => C - (intOf s12).toNat)
              case atStart => exact ⟨0, tgj, wvj, rowsR F s, _, _, List.replicate s 0, rfl, by simp, HIV.out, H4.out, HF4.out, HB4.out⟩
              case round =>
                obtain ⟨kk, tgl, wvl, L, wt, work, sc, rfl, hscl, hinv, h5, hf5, hb5⟩ := hrel
                have hc6 : wr.cell? ⟨b6, 0, none⟩ = some (.pointer (some ⟨Y.bl, 0, none⟩)) := (World.cell?_of_block (a := ⟨b6, 0, none⟩) (hf5 b6 hx6' ht6'.1).2).trans hb6c
                have hlkb := h5.lk (fun e => by cases e)
                have hcw : wr.cell? ⟨Y.bl, 13, none⟩ = some wvl := hlkb.cell rfl
                have hown := h5.work_ (fun e => by cases e)
                have hbd := hinv.bound
                obtain ⟨pw, cw, rfl, hw1, hw2, hw3⟩ := ri_form (Mine.ri (OW.mine hown) (by rw [ints_len]; omega))
                rw [ints_len] at hw1 hw2 hw3 hcw
                by_cases hlk : kk < work.length
                · obtain ⟨gw, ow, rfl, hcu⟩ := hw3 (by omega)
                  obtain ⟨x, hx⟩ : ∃ x, work.getD kk 0 = x := ⟨_, rfl⟩
                  have hcq := hcu kk hlk
                  rw [ints_getD, hx] at hcq
                  have hkz : (kk : Int) < (work.length : Int) := by omega
                  have hxn : x < F.ins.length := hinv.work_lt x (by rw [← hx]; exact getD_mem hlk)
                  have hffl := len_le_lens (FF := ffAll F F.ins.length) F.ins.length hxn
                  have hl3 := lens_all F F.ins.length F.ins.length
                  have HLQ := look_any (A := wr.drew) HSF.out HU.out HI.out HR.out (HLK.out.low.trans hb5).drew (h5.below (Below.refl wr.heap.size wr).drew) HSS.out hinv.ok hinv.wlen hscl hnn hxn (fun y hy => ffAll_ok.lt x hxn y hy) (by omega)
                  change Calls _ _ #[.pointer (some ⟨Y.bl, 0, none⟩), .int .i64 (x : Int)] _ _ at HLQ
                  have HLO := Lib.hid HLQ
                  have HF5 := Lib.hid hf5
                  have HB5 := Lib.hid hb5
                  have HNV := Lib.hid (hinv.step HSF.out.gr ffAll_ok hlk hx)
                  have hsz5 := hb5.size
                  clear h5 hf5 hb5 hinv hlkb hown hcu hw3 HLQ hffl hl3
                  go_wp2_with fail
                  refine wp_region_still_tail' 8 (by kernel_rfl) (by kernel_rfl) ?_
                  simp only [List.take_succ_cons, List.take_zero, List.drop_succ_cons, List.drop_zero]
                  repeat still_step
                  refine wpStill_nil ?_
                  go_wp2_with (first | (go_at_call 51; (with_reducible refine HLO.out.mono ?_); rintro e W3 ⟨⟨v, rfl⟩, hq9, hb9⟩; have HQ9 := Lib.hid hq9; have HB9 := Lib.hid hb9; clear hq9 hb9) | fail)
                  go_roundw
                  case rel =>
                    obtain ⟨sc9, tg9, wv9, hs9, h9, hf9⟩ := HQ9.out
                    exact ⟨kk + 1, tg9, wv9, _, _, _, sc9, by go_num, hs9, HNV.out, h9, HF5.out.trans hf9 hsz5, HB5.out.trans ((Below.refl _ wr).drew.trans HB9.out)⟩
                  case measure => simp [intOf]; omega
                · have hkz : ¬ (kk : Int) < (work.length : Int) := by omega
                  obtain ⟨hLo, hLv⟩ := hinv.done HSF.out.gr (by omega)
                  have hcL : wr.cell? ⟨Y.bl, 10, none⟩ = some (.slice (some ⟨Y.bL, 0, none⟩) F.ins.length F.ins.length) := hlkb.cell rfl
                  have H5 := Lib.hid h5
                  have HF5 := Lib.hid hf5
                  have HB5 := Lib.hid hb5
                  have HLo := Lib.hid hLo
                  have HLv := Lib.hid hLv
                  clear h5 hf5 hb5 hinv hlkb hown hw3 hLo hLv
                  go_wp2_with fail
                  have hmk := HLK.out.mks
                  have hlw : w.heap.size ≤ Wk.heap.size := by omega
                  refine leaves_marks (S := w.heap.size) _ _ (by
                    obtain ⟨Ds, h1, h2, h3⟩ := hmk
                    refine ⟨Ds, h1, h2, fun D hD => ?_⟩
                    obtain ⟨d1, d2, d3⟩ := h3 D hD
                    exact ⟨by omega, (HF5.out D (Array.getElem?_eq_some_iff.1 d3).1 d2).2.trans d3⟩) ?_
                  intro W' hk
                  refine ⟨_, results_tmp2 rfl _ _ _, ?_⟩
                  unfold LivePost
                  rw [if_pos HSD.out, ← HSS.out]
                  exact ⟨Y.wr ρ, tgl, FV, ffAll F F.ins.length, _, L, wt, work, sc, rfl, (H5.out.leave hk.size (fun g hg hne => hk.block g (.inr hne) hg)).up (by have := H5.out.hH; have := hk.size; omega) (Nat.le_refl _), HLo.out, HLv.out, (HLK.out.low.trans HB5.out).trans (hk.below (HLK.out.low.trans HB5.out).size fun b hb => .inl hb)⟩
end Go.Proofs.YtnniohimbmnapaaDoor
