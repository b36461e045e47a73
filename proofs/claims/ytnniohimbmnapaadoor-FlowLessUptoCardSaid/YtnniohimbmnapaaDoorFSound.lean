/- Layer 10: is a function sound? -/
import Derived.Test.YtnniohimbmnapaaDoorFHand
import Derived.Deep.RegionHeld3
namespace Go.Proofs.YtnniohimbmnapaaDoor
open Go.ChangeShapes Go.WideShapes Go.RowKit
set_option linter.unusedVariables false
set_option linter.unusedSimpArgs false
def insOk (F : FuncD) (k : Nat) : Bool := withinB (readsD (F.ins.getD k insZ)) F.regs && withinB (writesD (F.ins.getD k insZ)) F.regs && withinB (goesD (F.ins.getD k insZ) k) F.ins.length
def regOk (F : FuncD) (r : RegD) : Bool := decide (0 ≤ r.lo) && decide (r.lo ≤ r.hi) && decide (r.hi ≤ (F.ins.length : Int)) && inB r.to F.ins.length && inB r.d F.regs
def headOk (F : FuncD) : Bool := decide (0 ≤ F.regs) && decide (F.regs ≤ 65536) && decide (0 ≤ F.params) && decide (F.params ≤ F.regs) && decide (0 < F.ins.length)
def soundB (F : FuncD) : Bool := headOk F && (List.range F.ins.length).all (insOk F) && F.regions.all (regOk F)
theorem sound_head {F : FuncD} (h : headOk F = false) : soundB F = false := by simp [soundB, h]
theorem sound_ins {F : FuncD} {k : Nat} (hk : k < F.ins.length) (h : insOk F k = false) : soundB F = false := by
  have : (List.range F.ins.length).all (insOk F) = false := by
    rw [List.all_eq_false]
    exact ⟨k, List.mem_range.2 hk, by simp [h]⟩
  simp [soundB, this]
theorem sound_reg {F : FuncD} {k : Nat} (hk : k < F.regions.length) (h : regOk F (F.regions.getD k regZ) = false) : soundB F = false := by
  have : F.regions.all (regOk F) = false := by
    rw [List.all_eq_false]
    refine ⟨_, List.getElem_mem hk, ?_⟩
    rw [List.getD_eq_getElem?_getD, List.getElem?_eq_getElem hk] at h
    simp only [Option.getD_some] at h
    simp [h]
  simp [soundB, this]
theorem sound_yes {F : FuncD} (h1 : headOk F = true) (h2 : ∀ k, k < F.ins.length → insOk F k = true) (h3 : ∀ k, k < F.regions.length → regOk F (F.regions.getD k regZ) = true) : soundB F = true := by
  have e2 : (List.range F.ins.length).all (insOk F) = true := List.all_eq_true.2 fun k hk => h2 k (List.mem_range.1 hk)
  have e3 : F.regions.all (regOk F) = true := List.all_eq_true.2 fun r hr => by
    obtain ⟨k, hk, rfl⟩ := List.mem_iff_getElem.1 hr
    have := h3 k hk
    rwa [List.getD_eq_getElem?_getD, List.getElem?_eq_getElem hk] at this
  simp [soundB, h1, e2, e3]
theorem keep9 {w w' : World} {B g g1 : Nat} {v0 v1 v2 v3 v4 v5 v6 v7 v8 : Value} (hb : Below B w w') (hg : g < B) (hg1 : g1 < B)
    (h : w.cell? ⟨g, 2, none⟩ = some v0 ∧ w.cell? ⟨g, 8, none⟩ = some v1 ∧ w.cell? ⟨g1, 0, none⟩ = some v2 ∧ w.cell? ⟨g1, 1, none⟩ = some v3 ∧ w.cell? ⟨g1, 2, none⟩ = some v4 ∧ w.cell? ⟨g1, 3, none⟩ = some v5 ∧ w.cell? ⟨g1, 4, none⟩ = some v6 ∧ w.cell? ⟨g1, 5, none⟩ = some v7 ∧ w.cell? ⟨g1, 6, none⟩ = some v8) :
    w'.cell? ⟨g, 2, none⟩ = some v0 ∧ w'.cell? ⟨g, 8, none⟩ = some v1 ∧ w'.cell? ⟨g1, 0, none⟩ = some v2 ∧ w'.cell? ⟨g1, 1, none⟩ = some v3 ∧ w'.cell? ⟨g1, 2, none⟩ = some v4 ∧ w'.cell? ⟨g1, 3, none⟩ = some v5 ∧ w'.cell? ⟨g1, 4, none⟩ = some v6 ∧ w'.cell? ⟨g1, 5, none⟩ = some v7 ∧ w'.cell? ⟨g1, 6, none⟩ = some v8 := by
  obtain ⟨h0, h1, h2, h3, h4, h5, h6, h7, h8⟩ := h
  exact ⟨(hb.cell (p := ⟨g, 2, none⟩) hg).trans h0, (hb.cell (p := ⟨g, 8, none⟩) hg).trans h1, (hb.cell (p := ⟨g1, 0, none⟩) hg1).trans h2, (hb.cell (p := ⟨g1, 1, none⟩) hg1).trans h3, (hb.cell (p := ⟨g1, 2, none⟩) hg1).trans h4, (hb.cell (p := ⟨g1, 3, none⟩) hg1).trans h5, (hb.cell (p := ⟨g1, 4, none⟩) hg1).trans h6, (hb.cell (p := ⟨g1, 5, none⟩) hg1).trans h7, (hb.cell (p := ⟨g1, 6, none⟩) hg1).trans h8⟩
theorem allwithin_at {u : Value} {l : List Int} {n : Int} {b : Bool} (w : World) (h : Ri w u l) (hb : withinB l n = b) :
    Calls Tryd.prog 41 #[u, .int .i64 n] w fun e w' => e = .returned (.bool b) ∧ w = w' := by
  rw [← hb]; exact allwithin_any u l n w h
theorem within_at {x n : Int} {b : Bool} (w : World) (h : inB x n = b) : Calls Tryd.prog 45 #[.int .i64 x, .int .i64 n] w fun e w' => e = .returned (.bool b) ∧ w = w' := by
  rw [← h]; exact within_any x n w
/-- The loop over the instructions, and what stands behind it. -/
def SPost (F : FuncD) (W : World) (e : Ending) (w' : World) : Prop := e = .returned (.bool (soundB F)) ∧ Below W.heap.size W w'
theorem SPost.no {F : FuncD} {W w' : World} (h : soundB F = false) (hb : Below W.heap.size W w') : SPost F W (.returned (.bool false)) w' := ⟨by rw [h], hb⟩
theorem SPost.yes {F : FuncD} {W w' : World} (h : soundB F = true) (hb : Below W.heap.size W w') : SPost F W (.returned (.bool true)) w' := ⟨by rw [h], hb⟩
set_option maxRecDepth 100000 in
set_option maxHeartbeats 8000000 in
theorem sound_any (r : RestV) (F : FuncD) (iv rv : Value) (w : World) (hU : Us w) (hI : Ii w iv F.ins) (hR : Rg w rv F.regions) :
    Calls Tryd.prog 15 #[funcV r F iv rv] w (SPost F w) := by
  obtain ⟨p, c, rfl, hc, hm, hp⟩ := ii_form hI
  obtain ⟨p2, c2, rfl, hc2, hm2, hp2⟩ := rg_form hR
  have HU := Lib.hid hU
  have HP := Lib.hid hp
  have HP2 := Lib.hid hp2
  clear hU hI hR hp hp2
  by_cases hh : F.regs < 0 ∨ 65536 < F.regs ∨ F.params < 0 ∨ F.regs < F.params ∨ F.ins.length = 0
  · have HN := Lib.hid (sound_head (F := F) (by unfold headOk; rw [Bool.eq_false_iff]; intro hc; simp at hc; omega))
    by_cases h1 : F.regs < 0
    · clear hh
      unfold funcV
      go_enter Tryd.func15, Tryd.ntmps15
      go_wp2
      go_ret
      exact SPost.no HN.out (by ((repeat' (first | with_reducible assumption | with_reducible exact Below.refl _ _ | with_reducible refine Below.drew ?_ | with_reducible refine Below.alloc ?_ (by first | omega | (simp; omega) | (simp; done) | fail) _ | with_reducible refine Below.setCell ?_ (by first | omega | (simp; omega) | (simp; done) | fail) _ | fail)); (first | done | fail)))
    · by_cases h2 : 65536 < F.regs
      · clear hh
        unfold funcV
        go_enter Tryd.func15, Tryd.ntmps15
        go_wp2
        go_ret
        exact SPost.no HN.out (by ((repeat' (first | with_reducible assumption | with_reducible exact Below.refl _ _ | with_reducible refine Below.drew ?_ | with_reducible refine Below.alloc ?_ (by first | omega | (simp; omega) | (simp; done) | fail) _ | with_reducible refine Below.setCell ?_ (by first | omega | (simp; omega) | (simp; done) | fail) _ | fail)); (first | done | fail)))
      · by_cases h3 : F.params < 0
        · clear hh
          unfold funcV
          go_enter Tryd.func15, Tryd.ntmps15
          go_wp2
          go_ret
          exact SPost.no HN.out (by ((repeat' (first | with_reducible assumption | with_reducible exact Below.refl _ _ | with_reducible refine Below.drew ?_ | with_reducible refine Below.alloc ?_ (by first | omega | (simp; omega) | (simp; done) | fail) _ | with_reducible refine Below.setCell ?_ (by first | omega | (simp; omega) | (simp; done) | fail) _ | fail)); (first | done | fail)))
        · by_cases h4 : F.regs < F.params
          · clear hh
            unfold funcV
            go_enter Tryd.func15, Tryd.ntmps15
            go_wp2
            go_ret
            exact SPost.no HN.out (by ((repeat' (first | with_reducible assumption | with_reducible exact Below.refl _ _ | with_reducible refine Below.drew ?_ | with_reducible refine Below.alloc ?_ (by first | omega | (simp; omega) | (simp; done) | fail) _ | with_reducible refine Below.setCell ?_ (by first | omega | (simp; omega) | (simp; done) | fail) _ | fail)); (first | done | fail)))
          · have h5 : F.ins.length = 0 := by omega
            clear hh
            rw [h5]
            unfold funcV
            go_enter Tryd.func15, Tryd.ntmps15
            go_wp2
            go_ret
            exact SPost.no HN.out (by ((repeat' (first | with_reducible assumption | with_reducible exact Below.refl _ _ | with_reducible refine Below.drew ?_ | with_reducible refine Below.alloc ?_ (by first | omega | (simp; omega) | (simp; done) | fail) _ | with_reducible refine Below.setCell ?_ (by first | omega | (simp; omega) | (simp; done) | fail) _ | fail)); (first | done | fail)))
  · have HH := Lib.hid (show headOk F = true by unfold headOk; simp; omega)
    have h1 : ¬ F.regs < 0 := fun h => hh (.inl h)
    have h2 : ¬ 65536 < F.regs := fun h => hh (.inr (.inl h))
    have h3 : ¬ F.params < 0 := fun h => hh (.inr (.inr (.inl h)))
    have h4 : ¬ F.regs < F.params := fun h => hh (.inr (.inr (.inr (.inl h))))
    have h5 : 0 < F.ins.length := by omega
    have h5z : ((F.ins.length : Int) == 0) = false := by rw [beq_eq_false_iff_ne]; omega
    obtain ⟨b, off, rfl, hcell⟩ := HP.out h5
    have HCELL := Lib.hid hcell
    clear hh HP hcell
    unfold funcV
    go_enter Tryd.func15, Tryd.ntmps15
    go_wp2
    have HB10 := Lib.hid (Box10.new w r F (.slice (some ⟨b, off, none⟩) F.ins.length c) (.slice p2 F.regions.length c2) 27)
    go_loopw [3, 4, 36] (fun _ _ s wx => ∃ k : Nat, s = .int .i64 k ∧ k ≤ F.ins.length ∧ (∀ j, j < k → insOk F j = true) ∧ Below w.heap.size w wx ∧ Box10 wx w.heap.size r F (.slice (some ⟨b, off, none⟩) F.ins.length c) (.slice p2 F.regions.length c2)) (fun _ _ s _ => F.ins.length - (intOf s).toNat)
    case atStart => exact ⟨0, rfl, Nat.zero_le _, fun j h => by omega, (Below.refl _ _).alloc (Nat.le_refl _) _, HB10.out⟩
    case round =>
      obtain ⟨k, rfl, hk, hno, hb, hbox⟩ := hrel
      have HN := Lib.hid hno
      have HB := Lib.hid hb
      have HX := Lib.hid hbox
      have hsz := hb.size
      have hlt0 : w.heap.size < wr.heap.size := World.block_lt_of_cell? wr _ hbox.c0
      clear hno hb hbox HB10
      by_cases hlt : k < F.ins.length
      · obtain ⟨lv, hat⟩ := HCELL.out k hlt
        obtain ⟨e0, e1, e2, e3, e4, e5, e6, e7, hll⟩ := hat.keep HB.out
        have HI := Lib.hid (show insOk F k = (withinB (readsD (F.ins.getD k insZ)) F.regs && withinB (writesD (F.ins.getD k insZ)) F.regs && withinB (goesD (F.ins.getD k insZ) k) F.ins.length) from rfl)
        generalize F.ins.getD k insZ = i at e0 e1 e2 e3 e4 e5 e6 e7 HI hll
        obtain ⟨p7, c7, rfl, hy1, hy2, hy3⟩ := ri_form e7
        have HL := Lib.hid e7
        have hlz : (k : Int) < (F.ins.length : Int) := by omega
        have HRE := reads_any i (.slice p7 i.l.length c7)
        have HWE := writes_any i (.slice p7 i.l.length c7)
        have HGE := goes_any i (.slice p7 i.l.length c7) k (by omega) (by omega)
        unfold insV at HRE HWE HGE
        have HRE := Lib.hid HRE
        have HWE := Lib.hid HWE
        have HGE := Lib.hid HGE
        clear hat e7 hy1 hy2 hy3
        go_wp2_with fail
        have HS := Lib.hid (show (wr.alloc (Obj.cells #[Value.int .i64 i.op, Value.int .i64 i.d, Value.int .i64 i.a, Value.int .i64 i.b, Value.int .i64 i.t, Value.int .i64 i.k, Value.slice p7 i.l.length c7] 50)).cell? ⟨w.heap.size, 2, none⟩ = some (.int .i64 F.regs) ∧ (wr.alloc (Obj.cells #[Value.int .i64 i.op, Value.int .i64 i.d, Value.int .i64 i.a, Value.int .i64 i.b, Value.int .i64 i.t, Value.int .i64 i.k, Value.slice p7 i.l.length c7] 50)).cell? ⟨w.heap.size, 8, none⟩ = some (.slice (some ⟨b, off, none⟩) F.ins.length c) ∧ (wr.alloc (Obj.cells #[Value.int .i64 i.op, Value.int .i64 i.d, Value.int .i64 i.a, Value.int .i64 i.b, Value.int .i64 i.t, Value.int .i64 i.k, Value.slice p7 i.l.length c7] 50)).cell? ⟨wr.heap.size, 0, none⟩ = some (.int .i64 i.op) ∧ (wr.alloc (Obj.cells #[Value.int .i64 i.op, Value.int .i64 i.d, Value.int .i64 i.a, Value.int .i64 i.b, Value.int .i64 i.t, Value.int .i64 i.k, Value.slice p7 i.l.length c7] 50)).cell? ⟨wr.heap.size, 1, none⟩ = some (.int .i64 i.d) ∧ (wr.alloc (Obj.cells #[Value.int .i64 i.op, Value.int .i64 i.d, Value.int .i64 i.a, Value.int .i64 i.b, Value.int .i64 i.t, Value.int .i64 i.k, Value.slice p7 i.l.length c7] 50)).cell? ⟨wr.heap.size, 2, none⟩ = some (.int .i64 i.a) ∧ (wr.alloc (Obj.cells #[Value.int .i64 i.op, Value.int .i64 i.d, Value.int .i64 i.a, Value.int .i64 i.b, Value.int .i64 i.t, Value.int .i64 i.k, Value.slice p7 i.l.length c7] 50)).cell? ⟨wr.heap.size, 3, none⟩ = some (.int .i64 i.b) ∧ (wr.alloc (Obj.cells #[Value.int .i64 i.op, Value.int .i64 i.d, Value.int .i64 i.a, Value.int .i64 i.b, Value.int .i64 i.t, Value.int .i64 i.k, Value.slice p7 i.l.length c7] 50)).cell? ⟨wr.heap.size, 4, none⟩ = some (.int .i64 i.t) ∧ (wr.alloc (Obj.cells #[Value.int .i64 i.op, Value.int .i64 i.d, Value.int .i64 i.a, Value.int .i64 i.b, Value.int .i64 i.t, Value.int .i64 i.k, Value.slice p7 i.l.length c7] 50)).cell? ⟨wr.heap.size, 5, none⟩ = some (.int .i64 i.k) ∧ (wr.alloc (Obj.cells #[Value.int .i64 i.op, Value.int .i64 i.d, Value.int .i64 i.a, Value.int .i64 i.b, Value.int .i64 i.t, Value.int .i64 i.k, Value.slice p7 i.l.length c7] 50)).cell? ⟨wr.heap.size, 6, none⟩ = some (.slice p7 i.l.length c7) from ⟨alloc_cell HX.out.c2 _, alloc_cell HX.out.c8 _, cell_new rfl, cell_new rfl, cell_new rfl, cell_new rfl, cell_new rfl, cell_new rfl, cell_new rfl⟩)
        have HB0 := Lib.hid (HB.out.alloc HB.out.size (Obj.cells #[Value.int .i64 i.op, Value.int .i64 i.d, Value.int .i64 i.a, Value.int .i64 i.b, Value.int .i64 i.t, Value.int .i64 i.k, Value.slice p7 i.l.length c7] 50))
        have HX0 := Lib.hid (HX.out.keep (B := wr.heap.size) ((Below.refl _ _).alloc (Nat.le_refl _) (Obj.cells #[Value.int .i64 i.op, Value.int .i64 i.d, Value.int .i64 i.a, Value.int .i64 i.b, Value.int .i64 i.t, Value.int .i64 i.k, Value.slice p7 i.l.length c7] 50)) hlt0)
        have HL0 := Lib.hid (HL.out.keep ((Below.refl _ _).alloc (Nat.le_refl _) (Obj.cells #[Value.int .i64 i.op, Value.int .i64 i.d, Value.int .i64 i.a, Value.int .i64 i.b, Value.int .i64 i.t, Value.int .i64 i.k, Value.slice p7 i.l.length c7] 50)))
        have HU0 := Lib.hid (HU.out.keep HB0.out)
        have hz0 : (wr.alloc (Obj.cells #[Value.int .i64 i.op, Value.int .i64 i.d, Value.int .i64 i.a, Value.int .i64 i.b, Value.int .i64 i.t, Value.int .i64 i.k, Value.slice p7 i.l.length c7] 50)).heap.size = wr.heap.size + 1 := by simp
        generalize wr.alloc (Obj.cells #[Value.int .i64 i.op, Value.int .i64 i.d, Value.int .i64 i.a, Value.int .i64 i.b, Value.int .i64 i.t, Value.int .i64 i.k, Value.slice p7 i.l.length c7] 50) = W0 at HS HB0 HX0 HL0 HU0 hz0 ⊢
        have hg0 : w.heap.size < W0.heap.size := by omega
        have hg2 : wr.heap.size < W0.heap.size := by omega
        obtain ⟨g1, hg1⟩ : ∃ g1, wr.heap.size = g1 := ⟨_, rfl⟩
        rw [hg1] at HS hg2 ⊢
        clear hz0 hg1 e0 e1 e2 e3 e4 e5 e6 hlt0 hsz
        obtain ⟨d0, d1, d2, d3, d4, d5, d6, d7, d8⟩ := HS.out
        cases hrb : withinB (readsD i) F.regs with
        | false =>
          have HRB := Lib.hid hrb
          have HNO := Lib.hid (sound_ins hlt (by rw [HI.out, hrb]; rfl))
          clear hrb
          refine wp_region_noPanic ?_
          refine wp_region_held_drew (S := (fun w' => w'.cell? ⟨w.heap.size, 2, none⟩ = some (.int .i64 F.regs) ∧ w'.cell? ⟨w.heap.size, 8, none⟩ = some (.slice (some ⟨b, off, none⟩) F.ins.length c) ∧ w'.cell? ⟨g1, 0, none⟩ = some (.int .i64 i.op) ∧ w'.cell? ⟨g1, 1, none⟩ = some (.int .i64 i.d) ∧ w'.cell? ⟨g1, 2, none⟩ = some (.int .i64 i.a) ∧ w'.cell? ⟨g1, 3, none⟩ = some (.int .i64 i.b) ∧ w'.cell? ⟨g1, 4, none⟩ = some (.int .i64 i.t) ∧ w'.cell? ⟨g1, 5, none⟩ = some (.int .i64 i.k) ∧ w'.cell? ⟨g1, 6, none⟩ = some (.slice p7 i.l.length c7))) (by kernel_rfl) HS.out ?_
          intro _
          refine wpAnyH_take (i := 0) (v := ?_) rfl (by kernel_rfl) (by kernel_rfl) (by kernel_rfl) (fun _ _ _ h => h) (Or.inl ⟨by rfl, ?_⟩) (by assumption) ?_
          rotate_left 1
          · intro w hSw
            (try dsimp only at hSw)
            go_simp
            (try with_reducible rfl)
          try simp only [List.getElem_toArray, List.getElem_cons_succ, List.getElem_cons_zero, Act.put, List.setIfInBounds_toArray, List.set_cons_zero, List.set_cons_succ]
          refine wpAnyH_take (i := 2) (v := ?_) rfl (by kernel_rfl) (by kernel_rfl) (by kernel_rfl) (fun _ _ _ h => h) (Or.inl ⟨by rfl, ?_⟩) (by assumption) ?_
          rotate_left 1
          · intro w hSw
            (try dsimp only at hSw)
            go_simp
            (try with_reducible rfl)
          try simp only [List.getElem_toArray, List.getElem_cons_succ, List.getElem_cons_zero, Act.put, List.setIfInBounds_toArray, List.set_cons_zero, List.set_cons_succ]
          refine wpAnyH_take (i := 3) (v := ?_) rfl (by kernel_rfl) (by kernel_rfl) (by kernel_rfl) (fun _ _ _ h => h) (Or.inl ⟨by rfl, ?_⟩) (by assumption) ?_
          rotate_left 1
          · intro w hSw
            (try dsimp only at hSw)
            go_simp
            (try with_reducible rfl)
          try simp only [List.getElem_toArray, List.getElem_cons_succ, List.getElem_cons_zero, Act.put, List.setIfInBounds_toArray, List.set_cons_zero, List.set_cons_succ]
          refine wpAnyH_ready (rs := [1]) (by kernel_rfl) (by simp) ?_
          refine AllReadyH.cons rfl (fun K hK => ?_) AllReadyH.nil
          go_simp
          (go_at_call 42; refine (HRE.out _ (HU0.out.keep (by ((repeat' (first | with_reducible assumption | with_reducible exact Below.refl _ _ | with_reducible refine Below.drew ?_ | with_reducible refine Below.alloc ?_ (by first | omega | (simp; omega) | (simp; done) | fail) _ | with_reducible refine Below.setCell ?_ (by first | omega | (simp; omega) | (simp; done) | fail) _ | fail)); (first | done | fail)))) (HL0.out.keep (by ((repeat' (first | with_reducible assumption | with_reducible exact Below.refl _ _ | with_reducible refine Below.drew ?_ | with_reducible refine Below.alloc ?_ (by first | omega | (simp; omega) | (simp; done) | fail) _ | with_reducible refine Below.setCell ?_ (by first | omega | (simp; omega) | (simp; done) | fail) _ | fail)); (first | done | fail)))) hll).mono ?_; rintro e wA ⟨uA, rfl, hu, hb⟩; have hA : Below W0.heap.size W0 wA := Below.trans (by ((repeat' (first | with_reducible assumption | with_reducible exact Below.refl _ _ | with_reducible refine Below.drew ?_ | with_reducible refine Below.alloc ?_ (by first | omega | (simp; omega) | (simp; done) | fail) _ | with_reducible refine Below.setCell ?_ (by first | omega | (simp; omega) | (simp; done) | fail) _ | fail)); (first | done | fail)) : Below W0.heap.size W0 _) hb; have hsA := hA.size; have HOA := Lib.hid (Mine.ri (OW.mine hu) (Nat.le_trans (readsD_len i) (by omega))); clear hu hb)
          (try go_wp2_with fail)
          refine hK.out _ _ (keep9 hA hg0 hg2 HS.out) (fun hHeld => ?_)
          clear hK K
          try simp only [List.getElem_toArray, List.getElem_cons_succ, List.getElem_cons_zero, Act.put, List.setIfInBounds_toArray, List.set_cons_zero, List.set_cons_succ]
          refine wpAnyH_ready (rs := [4]) (by kernel_rfl) (by simp) ?_
          refine AllReadyH.cons rfl (fun K hK => ?_) AllReadyH.nil
          go_simp
          (go_at_call 41; refine (allwithin_at (u := uA) _ (HOA.out.keep (by ((repeat' (first | with_reducible assumption | with_reducible exact Below.refl _ _ | with_reducible refine Below.drew ?_ | with_reducible refine Below.alloc ?_ (by first | omega | (simp; omega) | (simp; done) | fail) _ | with_reducible refine Below.setCell ?_ (by first | omega | (simp; omega) | (simp; done) | fail) _ | fail)); (first | done | fail)))) HRB.out).mono ?_; rintro e w9 ⟨rfl, rfl⟩)
          (try go_wp2_with fail)
          refine hK.out _ _ (keep9 hA hg0 hg2 HS.out) (fun hHeld => ?_)
          clear hK K
          try simp only [List.getElem_toArray, List.getElem_cons_succ, List.getElem_cons_zero, Act.put, List.setIfInBounds_toArray, List.set_cons_zero, List.set_cons_succ]
          refine wpAnyH_take (i := 5) (v := ?_) rfl (by kernel_rfl) (by kernel_rfl) (by kernel_rfl) (fun _ _ _ h => h) (Or.inl ⟨by rfl, ?_⟩) (by assumption) ?_
          rotate_left 1
          · intro w hSw
            (try dsimp only at hSw)
            go_simp
            (try with_reducible rfl)
          try simp only [List.getElem_toArray, List.getElem_cons_succ, List.getElem_cons_zero, Act.put, List.setIfInBounds_toArray, List.set_cons_zero, List.set_cons_succ]
          refine wpAnyH_take (i := 6) (v := ?_) rfl (by kernel_rfl) (by kernel_rfl) (by kernel_rfl) (fun _ _ _ h => h) (Or.inl ⟨by rfl, ?_⟩) (by assumption) ?_
          rotate_left 1
          · intro w hSw
            (try dsimp only at hSw)
            go_simp
            (try with_reducible rfl)
          try simp only [List.getElem_toArray, List.getElem_cons_succ, List.getElem_cons_zero, Act.put, List.setIfInBounds_toArray, List.set_cons_zero, List.set_cons_succ]
          refine wpAnyH_take (i := 7) (v := undef) rfl (by kernel_rfl) (by kernel_rfl) (by kernel_rfl) (fun _ _ _ h => h) (Or.inr ⟨by rfl, rfl⟩) (by assumption) ?_
          try simp only [List.getElem_toArray, List.getElem_cons_succ, List.getElem_cons_zero, Act.put, List.setIfInBounds_toArray, List.set_cons_zero, List.set_cons_succ]
          refine wpAnyH_take (i := 9) (v := undef) rfl (by kernel_rfl) (by kernel_rfl) (by kernel_rfl) (fun _ _ _ h => h) (Or.inr ⟨by rfl, rfl⟩) (by assumption) ?_
          try simp only [List.getElem_toArray, List.getElem_cons_succ, List.getElem_cons_zero, Act.put, List.setIfInBounds_toArray, List.set_cons_zero, List.set_cons_succ]
          refine wpAnyH_take (i := 10) (v := undef) rfl (by kernel_rfl) (by kernel_rfl) (by kernel_rfl) (fun _ _ _ h => h) (Or.inr ⟨by rfl, rfl⟩) (by assumption) ?_
          try simp only [List.getElem_toArray, List.getElem_cons_succ, List.getElem_cons_zero, Act.put, List.setIfInBounds_toArray, List.set_cons_zero, List.set_cons_succ]
          refine wpAnyH_ready (rs := [8]) (by kernel_rfl) (by simp) ?_
          refine AllReadyH.cons rfl (fun K hK => ?_) AllReadyH.nil
          rw [if_neg (ne_true_of_eq_false (by rfl))]
          refine hK.out _ _ (by assumption) (fun hHeld => ?_)
          clear hK K
          try simp only [List.getElem_toArray, List.getElem_cons_succ, List.getElem_cons_zero, Act.put, List.setIfInBounds_toArray, List.set_cons_zero, List.set_cons_succ]
          refine wpAnyH_ready (rs := [11]) (by kernel_rfl) (by simp) ?_
          refine AllReadyH.cons rfl (fun K hK => ?_) AllReadyH.nil
          rw [if_neg (ne_true_of_eq_false (by rfl))]
          refine hK.out _ _ (by assumption) (fun hHeld => ?_)
          clear hK K
          try simp only [List.getElem_toArray, List.getElem_cons_succ, List.getElem_cons_zero, Act.put, List.setIfInBounds_toArray, List.set_cons_zero, List.set_cons_succ]
          refine wpAnyH_take (i := 12) (v := undef) rfl (by kernel_rfl) (by kernel_rfl) (by kernel_rfl) (fun _ _ _ h => h) (Or.inr ⟨by rfl, rfl⟩) (by assumption) ?_
          try simp only [List.getElem_toArray, List.getElem_cons_succ, List.getElem_cons_zero, Act.put, List.setIfInBounds_toArray, List.set_cons_zero, List.set_cons_succ]
          refine wpAnyH_take (i := 13) (v := ?_) rfl (by kernel_rfl) (by kernel_rfl) (by kernel_rfl) (fun _ _ _ h => h) (Or.inl ⟨by rfl, ?_⟩) (by assumption) ?_
          rotate_left 1
          · intro w hSw
            (try dsimp only at hSw)
            go_simp
            (try with_reducible rfl)
          try simp only [List.getElem_toArray, List.getElem_cons_succ, List.getElem_cons_zero, Act.put, List.setIfInBounds_toArray, List.set_cons_zero, List.set_cons_succ]
          refine wpAnyH_take (i := 14) (v := ?_) rfl (by kernel_rfl) (by kernel_rfl) (by kernel_rfl) (fun _ _ _ h => h) (Or.inl ⟨by rfl, ?_⟩) (by assumption) ?_
          rotate_left 1
          · intro w hSw
            (try dsimp only at hSw)
            go_simp
            (try with_reducible rfl)
          try simp only [List.getElem_toArray, List.getElem_cons_succ, List.getElem_cons_zero, Act.put, List.setIfInBounds_toArray, List.set_cons_zero, List.set_cons_succ]
          refine wpAnyH_take (i := 15) (v := undef) rfl (by kernel_rfl) (by kernel_rfl) (by kernel_rfl) (fun _ _ _ h => h) (Or.inr ⟨by rfl, rfl⟩) (by assumption) ?_
          try simp only [List.getElem_toArray, List.getElem_cons_succ, List.getElem_cons_zero, Act.put, List.setIfInBounds_toArray, List.set_cons_zero, List.set_cons_succ]
          refine wpAnyH_take (i := 16) (v := undef) rfl (by kernel_rfl) (by kernel_rfl) (by kernel_rfl) (fun _ _ _ h => h) (Or.inr ⟨by rfl, rfl⟩) (by assumption) ?_
          try simp only [List.getElem_toArray, List.getElem_cons_succ, List.getElem_cons_zero, Act.put, List.setIfInBounds_toArray, List.set_cons_zero, List.set_cons_succ]
          refine wpAnyH_take (i := 18) (v := undef) rfl (by kernel_rfl) (by kernel_rfl) (by kernel_rfl) (fun _ _ _ h => h) (Or.inr ⟨by rfl, rfl⟩) (by assumption) ?_
          try simp only [List.getElem_toArray, List.getElem_cons_succ, List.getElem_cons_zero, Act.put, List.setIfInBounds_toArray, List.set_cons_zero, List.set_cons_succ]
          refine wpAnyH_take (i := 19) (v := undef) rfl (by kernel_rfl) (by kernel_rfl) (by kernel_rfl) (fun _ _ _ h => h) (Or.inr ⟨by rfl, rfl⟩) (by assumption) ?_
          try simp only [List.getElem_toArray, List.getElem_cons_succ, List.getElem_cons_zero, Act.put, List.setIfInBounds_toArray, List.set_cons_zero, List.set_cons_succ]
          refine wpAnyH_take (i := 20) (v := undef) rfl (by kernel_rfl) (by kernel_rfl) (by kernel_rfl) (fun _ _ _ h => h) (Or.inr ⟨by rfl, rfl⟩) (by assumption) ?_
          try simp only [List.getElem_toArray, List.getElem_cons_succ, List.getElem_cons_zero, Act.put, List.setIfInBounds_toArray, List.set_cons_zero, List.set_cons_succ]
          refine wpAnyH_ready (rs := [17]) (by kernel_rfl) (by simp) ?_
          refine AllReadyH.cons rfl (fun K hK => ?_) AllReadyH.nil
          rw [if_neg (ne_true_of_eq_false (by rfl))]
          refine hK.out _ _ (by assumption) (fun hHeld => ?_)
          clear hK K
          try simp only [List.getElem_toArray, List.getElem_cons_succ, List.getElem_cons_zero, Act.put, List.setIfInBounds_toArray, List.set_cons_zero, List.set_cons_succ]
          refine wpAnyH_ready (rs := [21]) (by kernel_rfl) (by simp) ?_
          refine AllReadyH.cons rfl (fun K hK => ?_) AllReadyH.nil
          rw [if_neg (ne_true_of_eq_false (by rfl))]
          refine hK.out _ _ (by assumption) (fun hHeld => ?_)
          clear hK K
          try simp only [List.getElem_toArray, List.getElem_cons_succ, List.getElem_cons_zero, Act.put, List.setIfInBounds_toArray, List.set_cons_zero, List.set_cons_succ]
          refine wpAnyH_take (i := 22) (v := undef) rfl (by kernel_rfl) (by kernel_rfl) (by kernel_rfl) (fun _ _ _ h => h) (Or.inr ⟨by rfl, rfl⟩) (by assumption) ?_
          try simp only [List.getElem_toArray, List.getElem_cons_succ, List.getElem_cons_zero, Act.put, List.setIfInBounds_toArray, List.set_cons_zero, List.set_cons_succ]
          refine wpAnyH_take (i := 23) (v := ?_) rfl (by kernel_rfl) (by kernel_rfl) (by kernel_rfl) (fun _ _ _ h => h) (Or.inl ⟨by rfl, ?_⟩) (by assumption) ?_
          rotate_left 1
          · intro w hSw
            (try dsimp only at hSw)
            go_simp
            (try with_reducible rfl)
          try simp only [List.getElem_toArray, List.getElem_cons_succ, List.getElem_cons_zero, Act.put, List.setIfInBounds_toArray, List.set_cons_zero, List.set_cons_succ]
          refine wpAnyH_done (by kernel_rfl) ?_ _
          refine NoPanic.normal ?_
          all_goals
            go_wp2_with fail
            go_ret
            exact SPost.no HNO.out (HB0.out.trans (hA.mono HB0.out.size))
        | true =>
          have HRB := Lib.hid hrb
          cases hwb : withinB (writesD i) F.regs with
          | false =>
            have HWB := Lib.hid hwb
            have HNO := Lib.hid (sound_ins hlt (by rw [HI.out, hrb, hwb]; rfl))
            clear hrb hwb
            refine wp_region_noPanic ?_
            refine wp_region_held_drew (S := (fun w' => w'.cell? ⟨w.heap.size, 2, none⟩ = some (.int .i64 F.regs) ∧ w'.cell? ⟨w.heap.size, 8, none⟩ = some (.slice (some ⟨b, off, none⟩) F.ins.length c) ∧ w'.cell? ⟨g1, 0, none⟩ = some (.int .i64 i.op) ∧ w'.cell? ⟨g1, 1, none⟩ = some (.int .i64 i.d) ∧ w'.cell? ⟨g1, 2, none⟩ = some (.int .i64 i.a) ∧ w'.cell? ⟨g1, 3, none⟩ = some (.int .i64 i.b) ∧ w'.cell? ⟨g1, 4, none⟩ = some (.int .i64 i.t) ∧ w'.cell? ⟨g1, 5, none⟩ = some (.int .i64 i.k) ∧ w'.cell? ⟨g1, 6, none⟩ = some (.slice p7 i.l.length c7))) (by kernel_rfl) HS.out ?_
            intro _
            refine wpAnyH_take (i := 0) (v := ?_) rfl (by kernel_rfl) (by kernel_rfl) (by kernel_rfl) (fun _ _ _ h => h) (Or.inl ⟨by rfl, ?_⟩) (by assumption) ?_
            rotate_left 1
            · intro w hSw
              (try dsimp only at hSw)
              go_simp
              (try with_reducible rfl)
            try simp only [List.getElem_toArray, List.getElem_cons_succ, List.getElem_cons_zero, Act.put, List.setIfInBounds_toArray, List.set_cons_zero, List.set_cons_succ]
            refine wpAnyH_take (i := 2) (v := ?_) rfl (by kernel_rfl) (by kernel_rfl) (by kernel_rfl) (fun _ _ _ h => h) (Or.inl ⟨by rfl, ?_⟩) (by assumption) ?_
            rotate_left 1
            · intro w hSw
              (try dsimp only at hSw)
              go_simp
              (try with_reducible rfl)
            try simp only [List.getElem_toArray, List.getElem_cons_succ, List.getElem_cons_zero, Act.put, List.setIfInBounds_toArray, List.set_cons_zero, List.set_cons_succ]
            refine wpAnyH_take (i := 3) (v := ?_) rfl (by kernel_rfl) (by kernel_rfl) (by kernel_rfl) (fun _ _ _ h => h) (Or.inl ⟨by rfl, ?_⟩) (by assumption) ?_
            rotate_left 1
            · intro w hSw
              (try dsimp only at hSw)
              go_simp
              (try with_reducible rfl)
            try simp only [List.getElem_toArray, List.getElem_cons_succ, List.getElem_cons_zero, Act.put, List.setIfInBounds_toArray, List.set_cons_zero, List.set_cons_succ]
            refine wpAnyH_ready (rs := [1]) (by kernel_rfl) (by simp) ?_
            refine AllReadyH.cons rfl (fun K hK => ?_) AllReadyH.nil
            go_simp
            (go_at_call 42; refine (HRE.out _ (HU0.out.keep (by ((repeat' (first | with_reducible assumption | with_reducible exact Below.refl _ _ | with_reducible refine Below.drew ?_ | with_reducible refine Below.alloc ?_ (by first | omega | (simp; omega) | (simp; done) | fail) _ | with_reducible refine Below.setCell ?_ (by first | omega | (simp; omega) | (simp; done) | fail) _ | fail)); (first | done | fail)))) (HL0.out.keep (by ((repeat' (first | with_reducible assumption | with_reducible exact Below.refl _ _ | with_reducible refine Below.drew ?_ | with_reducible refine Below.alloc ?_ (by first | omega | (simp; omega) | (simp; done) | fail) _ | with_reducible refine Below.setCell ?_ (by first | omega | (simp; omega) | (simp; done) | fail) _ | fail)); (first | done | fail)))) hll).mono ?_; rintro e wA ⟨uA, rfl, hu, hb⟩; have hA : Below W0.heap.size W0 wA := Below.trans (by ((repeat' (first | with_reducible assumption | with_reducible exact Below.refl _ _ | with_reducible refine Below.drew ?_ | with_reducible refine Below.alloc ?_ (by first | omega | (simp; omega) | (simp; done) | fail) _ | with_reducible refine Below.setCell ?_ (by first | omega | (simp; omega) | (simp; done) | fail) _ | fail)); (first | done | fail)) : Below W0.heap.size W0 _) hb; have hsA := hA.size; have HOA := Lib.hid (Mine.ri (OW.mine hu) (Nat.le_trans (readsD_len i) (by omega))); clear hu hb)
            (try go_wp2_with fail)
            refine hK.out _ _ (keep9 hA hg0 hg2 HS.out) (fun hHeld => ?_)
            clear hK K
            try simp only [List.getElem_toArray, List.getElem_cons_succ, List.getElem_cons_zero, Act.put, List.setIfInBounds_toArray, List.set_cons_zero, List.set_cons_succ]
            refine wpAnyH_ready (rs := [4]) (by kernel_rfl) (by simp) ?_
            refine AllReadyH.cons rfl (fun K hK => ?_) AllReadyH.nil
            go_simp
            (go_at_call 41; refine (allwithin_at (u := uA) _ (HOA.out.keep (by ((repeat' (first | with_reducible assumption | with_reducible exact Below.refl _ _ | with_reducible refine Below.drew ?_ | with_reducible refine Below.alloc ?_ (by first | omega | (simp; omega) | (simp; done) | fail) _ | with_reducible refine Below.setCell ?_ (by first | omega | (simp; omega) | (simp; done) | fail) _ | fail)); (first | done | fail)))) HRB.out).mono ?_; rintro e w9 ⟨rfl, rfl⟩)
            (try go_wp2_with fail)
            refine hK.out _ _ (keep9 hA hg0 hg2 HS.out) (fun hHeld => ?_)
            clear hK K
            try simp only [List.getElem_toArray, List.getElem_cons_succ, List.getElem_cons_zero, Act.put, List.setIfInBounds_toArray, List.set_cons_zero, List.set_cons_succ]
            refine wpAnyH_take (i := 5) (v := ?_) rfl (by kernel_rfl) (by kernel_rfl) (by kernel_rfl) (fun _ _ _ h => h) (Or.inl ⟨by rfl, ?_⟩) (by assumption) ?_
            rotate_left 1
            · intro w hSw
              (try dsimp only at hSw)
              go_simp
              (try with_reducible rfl)
            try simp only [List.getElem_toArray, List.getElem_cons_succ, List.getElem_cons_zero, Act.put, List.setIfInBounds_toArray, List.set_cons_zero, List.set_cons_succ]
            refine wpAnyH_take (i := 6) (v := ?_) rfl (by kernel_rfl) (by kernel_rfl) (by kernel_rfl) (fun _ _ _ h => h) (Or.inl ⟨by rfl, ?_⟩) (by assumption) ?_
            rotate_left 1
            · intro w hSw
              (try dsimp only at hSw)
              go_simp
              (try with_reducible rfl)
            try simp only [List.getElem_toArray, List.getElem_cons_succ, List.getElem_cons_zero, Act.put, List.setIfInBounds_toArray, List.set_cons_zero, List.set_cons_succ]
            refine wpAnyH_take (i := 7) (v := ?_) rfl (by kernel_rfl) (by kernel_rfl) (by kernel_rfl) (fun _ _ _ h => h) (Or.inl ⟨by rfl, ?_⟩) (by assumption) ?_
            rotate_left 1
            · intro w hSw
              (try dsimp only at hSw)
              go_simp
              (try with_reducible rfl)
            try simp only [List.getElem_toArray, List.getElem_cons_succ, List.getElem_cons_zero, Act.put, List.setIfInBounds_toArray, List.set_cons_zero, List.set_cons_succ]
            refine wpAnyH_take (i := 9) (v := ?_) rfl (by kernel_rfl) (by kernel_rfl) (by kernel_rfl) (fun _ _ _ h => h) (Or.inl ⟨by rfl, ?_⟩) (by assumption) ?_
            rotate_left 1
            · intro w hSw
              (try dsimp only at hSw)
              go_simp
              (try with_reducible rfl)
            try simp only [List.getElem_toArray, List.getElem_cons_succ, List.getElem_cons_zero, Act.put, List.setIfInBounds_toArray, List.set_cons_zero, List.set_cons_succ]
            refine wpAnyH_take (i := 10) (v := ?_) rfl (by kernel_rfl) (by kernel_rfl) (by kernel_rfl) (fun _ _ _ h => h) (Or.inl ⟨by rfl, ?_⟩) (by assumption) ?_
            rotate_left 1
            · intro w hSw
              (try dsimp only at hSw)
              go_simp
              (try with_reducible rfl)
            try simp only [List.getElem_toArray, List.getElem_cons_succ, List.getElem_cons_zero, Act.put, List.setIfInBounds_toArray, List.set_cons_zero, List.set_cons_succ]
            refine wpAnyH_ready (rs := [8]) (by kernel_rfl) (by simp) ?_
            refine AllReadyH.cons rfl (fun K hK => ?_) AllReadyH.nil
            go_simp
            (go_at_call 43; refine (HWE.out _ (HU0.out.keep (by ((repeat' (first | with_reducible assumption | with_reducible exact Below.refl _ _ | with_reducible refine Below.drew ?_ | with_reducible refine Below.alloc ?_ (by first | omega | (simp; omega) | (simp; done) | fail) _ | with_reducible refine Below.setCell ?_ (by first | omega | (simp; omega) | (simp; done) | fail) _ | fail)); (first | done | fail)))) (HL0.out.keep (by ((repeat' (first | with_reducible assumption | with_reducible exact Below.refl _ _ | with_reducible refine Below.drew ?_ | with_reducible refine Below.alloc ?_ (by first | omega | (simp; omega) | (simp; done) | fail) _ | with_reducible refine Below.setCell ?_ (by first | omega | (simp; omega) | (simp; done) | fail) _ | fail)); (first | done | fail)))) hll).mono ?_; rintro e wB ⟨uB, rfl, hu, hb⟩; have hB : Below W0.heap.size W0 wB := Below.trans (by ((repeat' (first | with_reducible assumption | with_reducible exact Below.refl _ _ | with_reducible refine Below.drew ?_ | with_reducible refine Below.alloc ?_ (by first | omega | (simp; omega) | (simp; done) | fail) _ | with_reducible refine Below.setCell ?_ (by first | omega | (simp; omega) | (simp; done) | fail) _ | fail)); (first | done | fail)) : Below W0.heap.size W0 _) (hb.mono (by first | omega | (simp; omega))); have hsB := hB.size; have HOB := Lib.hid (Mine.ri (OW.mine hu) (Nat.le_trans (writesD_len i) (by omega))); clear hu hb)
            (try go_wp2_with fail)
            refine hK.out _ _ (keep9 hB hg0 hg2 HS.out) (fun hHeld => ?_)
            clear hK K
            try simp only [List.getElem_toArray, List.getElem_cons_succ, List.getElem_cons_zero, Act.put, List.setIfInBounds_toArray, List.set_cons_zero, List.set_cons_succ]
            refine wpAnyH_ready (rs := [11]) (by kernel_rfl) (by simp) ?_
            refine AllReadyH.cons rfl (fun K hK => ?_) AllReadyH.nil
            go_simp
            (go_at_call 41; refine (allwithin_at (u := uB) _ (HOB.out.keep (by ((repeat' (first | with_reducible assumption | with_reducible exact Below.refl _ _ | with_reducible refine Below.drew ?_ | with_reducible refine Below.alloc ?_ (by first | omega | (simp; omega) | (simp; done) | fail) _ | with_reducible refine Below.setCell ?_ (by first | omega | (simp; omega) | (simp; done) | fail) _ | fail)); (first | done | fail)))) HWB.out).mono ?_; rintro e w9 ⟨rfl, rfl⟩)
            (try go_wp2_with fail)
            refine hK.out _ _ (keep9 hB hg0 hg2 HS.out) (fun hHeld => ?_)
            clear hK K
            try simp only [List.getElem_toArray, List.getElem_cons_succ, List.getElem_cons_zero, Act.put, List.setIfInBounds_toArray, List.set_cons_zero, List.set_cons_succ]
            refine wpAnyH_take (i := 12) (v := ?_) rfl (by kernel_rfl) (by kernel_rfl) (by kernel_rfl) (fun _ _ _ h => h) (Or.inl ⟨by rfl, ?_⟩) (by assumption) ?_
            rotate_left 1
            · intro w hSw
              (try dsimp only at hSw)
              go_simp
              (try with_reducible rfl)
            try simp only [List.getElem_toArray, List.getElem_cons_succ, List.getElem_cons_zero, Act.put, List.setIfInBounds_toArray, List.set_cons_zero, List.set_cons_succ]
            refine wpAnyH_take (i := 13) (v := ?_) rfl (by kernel_rfl) (by kernel_rfl) (by kernel_rfl) (fun _ _ _ h => h) (Or.inl ⟨by rfl, ?_⟩) (by assumption) ?_
            rotate_left 1
            · intro w hSw
              (try dsimp only at hSw)
              go_simp
              (try with_reducible rfl)
            try simp only [List.getElem_toArray, List.getElem_cons_succ, List.getElem_cons_zero, Act.put, List.setIfInBounds_toArray, List.set_cons_zero, List.set_cons_succ]
            refine wpAnyH_take (i := 14) (v := ?_) rfl (by kernel_rfl) (by kernel_rfl) (by kernel_rfl) (fun _ _ _ h => h) (Or.inl ⟨by rfl, ?_⟩) (by assumption) ?_
            rotate_left 1
            · intro w hSw
              (try dsimp only at hSw)
              go_simp
              (try with_reducible rfl)
            try simp only [List.getElem_toArray, List.getElem_cons_succ, List.getElem_cons_zero, Act.put, List.setIfInBounds_toArray, List.set_cons_zero, List.set_cons_succ]
            refine wpAnyH_take (i := 15) (v := undef) rfl (by kernel_rfl) (by kernel_rfl) (by kernel_rfl) (fun _ _ _ h => h) (Or.inr ⟨by rfl, rfl⟩) (by assumption) ?_
            try simp only [List.getElem_toArray, List.getElem_cons_succ, List.getElem_cons_zero, Act.put, List.setIfInBounds_toArray, List.set_cons_zero, List.set_cons_succ]
            refine wpAnyH_take (i := 16) (v := undef) rfl (by kernel_rfl) (by kernel_rfl) (by kernel_rfl) (fun _ _ _ h => h) (Or.inr ⟨by rfl, rfl⟩) (by assumption) ?_
            try simp only [List.getElem_toArray, List.getElem_cons_succ, List.getElem_cons_zero, Act.put, List.setIfInBounds_toArray, List.set_cons_zero, List.set_cons_succ]
            refine wpAnyH_take (i := 18) (v := undef) rfl (by kernel_rfl) (by kernel_rfl) (by kernel_rfl) (fun _ _ _ h => h) (Or.inr ⟨by rfl, rfl⟩) (by assumption) ?_
            try simp only [List.getElem_toArray, List.getElem_cons_succ, List.getElem_cons_zero, Act.put, List.setIfInBounds_toArray, List.set_cons_zero, List.set_cons_succ]
            refine wpAnyH_take (i := 19) (v := undef) rfl (by kernel_rfl) (by kernel_rfl) (by kernel_rfl) (fun _ _ _ h => h) (Or.inr ⟨by rfl, rfl⟩) (by assumption) ?_
            try simp only [List.getElem_toArray, List.getElem_cons_succ, List.getElem_cons_zero, Act.put, List.setIfInBounds_toArray, List.set_cons_zero, List.set_cons_succ]
            refine wpAnyH_take (i := 20) (v := undef) rfl (by kernel_rfl) (by kernel_rfl) (by kernel_rfl) (fun _ _ _ h => h) (Or.inr ⟨by rfl, rfl⟩) (by assumption) ?_
            try simp only [List.getElem_toArray, List.getElem_cons_succ, List.getElem_cons_zero, Act.put, List.setIfInBounds_toArray, List.set_cons_zero, List.set_cons_succ]
            refine wpAnyH_ready (rs := [17]) (by kernel_rfl) (by simp) ?_
            refine AllReadyH.cons rfl (fun K hK => ?_) AllReadyH.nil
            rw [if_neg (ne_true_of_eq_false (by rfl))]
            refine hK.out _ _ (by assumption) (fun hHeld => ?_)
            clear hK K
            try simp only [List.getElem_toArray, List.getElem_cons_succ, List.getElem_cons_zero, Act.put, List.setIfInBounds_toArray, List.set_cons_zero, List.set_cons_succ]
            refine wpAnyH_ready (rs := [21]) (by kernel_rfl) (by simp) ?_
            refine AllReadyH.cons rfl (fun K hK => ?_) AllReadyH.nil
            rw [if_neg (ne_true_of_eq_false (by rfl))]
            refine hK.out _ _ (by assumption) (fun hHeld => ?_)
            clear hK K
            try simp only [List.getElem_toArray, List.getElem_cons_succ, List.getElem_cons_zero, Act.put, List.setIfInBounds_toArray, List.set_cons_zero, List.set_cons_succ]
            refine wpAnyH_take (i := 22) (v := undef) rfl (by kernel_rfl) (by kernel_rfl) (by kernel_rfl) (fun _ _ _ h => h) (Or.inr ⟨by rfl, rfl⟩) (by assumption) ?_
            try simp only [List.getElem_toArray, List.getElem_cons_succ, List.getElem_cons_zero, Act.put, List.setIfInBounds_toArray, List.set_cons_zero, List.set_cons_succ]
            refine wpAnyH_take (i := 23) (v := ?_) rfl (by kernel_rfl) (by kernel_rfl) (by kernel_rfl) (fun _ _ _ h => h) (Or.inl ⟨by rfl, ?_⟩) (by assumption) ?_
            rotate_left 1
            · intro w hSw
              (try dsimp only at hSw)
              go_simp
              (try with_reducible rfl)
            try simp only [List.getElem_toArray, List.getElem_cons_succ, List.getElem_cons_zero, Act.put, List.setIfInBounds_toArray, List.set_cons_zero, List.set_cons_succ]
            refine wpAnyH_done (by kernel_rfl) ?_ _
            refine NoPanic.normal ?_
            go_wp2_with fail
            go_ret
            exact SPost.no HNO.out (HB0.out.trans (hB.mono HB0.out.size))
          | true =>
            have HWB := Lib.hid hwb
            cases hgb : withinB (goesD i k) F.ins.length with
            | false =>
              have HGB := Lib.hid hgb
              have HNO := Lib.hid (sound_ins hlt (by rw [HI.out, hrb, hwb, hgb]; rfl))
              clear hrb hwb hgb
              go_region_held3 (fun w' => w'.cell? ⟨w.heap.size, 2, none⟩ = some (.int .i64 F.regs) ∧ w'.cell? ⟨w.heap.size, 8, none⟩ = some (.slice (some ⟨b, off, none⟩) F.ins.length c) ∧ w'.cell? ⟨g1, 0, none⟩ = some (.int .i64 i.op) ∧ w'.cell? ⟨g1, 1, none⟩ = some (.int .i64 i.d) ∧ w'.cell? ⟨g1, 2, none⟩ = some (.int .i64 i.a) ∧ w'.cell? ⟨g1, 3, none⟩ = some (.int .i64 i.b) ∧ w'.cell? ⟨g1, 4, none⟩ = some (.int .i64 i.t) ∧ w'.cell? ⟨g1, 5, none⟩ = some (.int .i64 i.k) ∧ w'.cell? ⟨g1, 6, none⟩ = some (.slice p7 i.l.length c7))
                (first | go_keep | exact keep9 hC (by omega) (by omega) HS.out | exact keep9 hB (by omega) (by omega) HS.out | exact keep9 hA (by omega) (by omega) HS.out | fail)
                (first
                  | (go_at_call 42; (with_reducible refine (HRE.out _ (HU0.out.keep (by ((repeat' (first | with_reducible assumption | with_reducible exact Below.refl _ _ | with_reducible refine Below.drew ?_ | with_reducible refine Below.alloc ?_ (by first | omega | (simp; omega) | (simp; done) | fail) _ | with_reducible refine Below.setCell ?_ (by first | omega | (simp; omega) | (simp; done) | fail) _ | fail)); (first | done | fail)))) (HL0.out.keep (by ((repeat' (first | with_reducible assumption | with_reducible exact Below.refl _ _ | with_reducible refine Below.drew ?_ | with_reducible refine Below.alloc ?_ (by first | omega | (simp; omega) | (simp; done) | fail) _ | with_reducible refine Below.setCell ?_ (by first | omega | (simp; omega) | (simp; done) | fail) _ | fail)); (first | done | fail)))) hll).mono ?_); rintro e wA ⟨uA, rfl, hu, hb⟩; have hA : Below W0.heap.size W0 wA := Below.trans (by ((repeat' (first | with_reducible assumption | with_reducible exact Below.refl _ _ | with_reducible refine Below.drew ?_ | with_reducible refine Below.alloc ?_ (by first | omega | (simp; omega) | (simp; done) | fail) _ | with_reducible refine Below.setCell ?_ (by first | omega | (simp; omega) | (simp; done) | fail) _ | fail)); (first | done | fail)) : Below W0.heap.size W0 _) hb; have hsA := hA.size; have HOA := Lib.hid (Mine.ri (OW.mine hu) (Nat.le_trans (readsD_len i) (by omega))); clear hu hb)
                  | (go_at_call 41; (with_reducible refine (allwithin_at (u := uA) _ (HOA.out.keep (by ((repeat' (first | with_reducible assumption | with_reducible exact Below.refl _ _ | with_reducible refine Below.drew ?_ | with_reducible refine Below.alloc ?_ (by first | omega | (simp; omega) | (simp; done) | fail) _ | with_reducible refine Below.setCell ?_ (by first | omega | (simp; omega) | (simp; done) | fail) _ | fail)); (first | done | fail)))) HRB.out).mono ?_); rintro e w9 ⟨rfl, rfl⟩)
                  | (go_at_call 43; (with_reducible refine (HWE.out _ (HU0.out.keep (by ((repeat' (first | with_reducible assumption | with_reducible exact Below.refl _ _ | with_reducible refine Below.drew ?_ | with_reducible refine Below.alloc ?_ (by first | omega | (simp; omega) | (simp; done) | fail) _ | with_reducible refine Below.setCell ?_ (by first | omega | (simp; omega) | (simp; done) | fail) _ | fail)); (first | done | fail)))) (HL0.out.keep (by ((repeat' (first | with_reducible assumption | with_reducible exact Below.refl _ _ | with_reducible refine Below.drew ?_ | with_reducible refine Below.alloc ?_ (by first | omega | (simp; omega) | (simp; done) | fail) _ | with_reducible refine Below.setCell ?_ (by first | omega | (simp; omega) | (simp; done) | fail) _ | fail)); (first | done | fail)))) hll).mono ?_); rintro e wB ⟨uB, rfl, hu, hb⟩; have hB : Below W0.heap.size W0 wB := Below.trans (by ((repeat' (first | with_reducible assumption | with_reducible exact Below.refl _ _ | with_reducible refine Below.drew ?_ | with_reducible refine Below.alloc ?_ (by first | omega | (simp; omega) | (simp; done) | fail) _ | with_reducible refine Below.setCell ?_ (by first | omega | (simp; omega) | (simp; done) | fail) _ | fail)); (first | done | fail)) : Below W0.heap.size W0 _) (hb.mono (by first | omega | (simp; omega))); have hsB := hB.size; have HOB := Lib.hid (Mine.ri (OW.mine hu) (Nat.le_trans (writesD_len i) (by omega))); clear hu hb)
                  | (go_at_call 41; (with_reducible refine (allwithin_at (u := uB) _ (HOB.out.keep (by ((repeat' (first | with_reducible assumption | with_reducible exact Below.refl _ _ | with_reducible refine Below.drew ?_ | with_reducible refine Below.alloc ?_ (by first | omega | (simp; omega) | (simp; done) | fail) _ | with_reducible refine Below.setCell ?_ (by first | omega | (simp; omega) | (simp; done) | fail) _ | fail)); (first | done | fail)))) HWB.out).mono ?_); rintro e w9 ⟨rfl, rfl⟩)
                  | (go_at_call 44; (with_reducible refine (HGE.out _ (HU0.out.keep (by ((repeat' (first | with_reducible assumption | with_reducible exact Below.refl _ _ | with_reducible refine Below.drew ?_ | with_reducible refine Below.alloc ?_ (by first | omega | (simp; omega) | (simp; done) | fail) _ | with_reducible refine Below.setCell ?_ (by first | omega | (simp; omega) | (simp; done) | fail) _ | fail)); (first | done | fail)))) (HL0.out.keep (by ((repeat' (first | with_reducible assumption | with_reducible exact Below.refl _ _ | with_reducible refine Below.drew ?_ | with_reducible refine Below.alloc ?_ (by first | omega | (simp; omega) | (simp; done) | fail) _ | with_reducible refine Below.setCell ?_ (by first | omega | (simp; omega) | (simp; done) | fail) _ | fail)); (first | done | fail)))) hll).mono ?_); rintro e wC ⟨uC, rfl, hu, hb⟩; have hC : Below W0.heap.size W0 wC := Below.trans (by ((repeat' (first | with_reducible assumption | with_reducible exact Below.refl _ _ | with_reducible refine Below.drew ?_ | with_reducible refine Below.alloc ?_ (by first | omega | (simp; omega) | (simp; done) | fail) _ | with_reducible refine Below.setCell ?_ (by first | omega | (simp; omega) | (simp; done) | fail) _ | fail)); (first | done | fail)) : Below W0.heap.size W0 _) (hb.mono (by first | omega | (simp; omega))); have hsC := hC.size; have HOC := Lib.hid (Mine.ri (OW.mine hu) (Nat.le_trans (goesD_len i k) (by omega))); clear hu hb)
                  | (go_at_call 41; (with_reducible refine (allwithin_at (u := uC) _ (HOC.out.keep (by ((repeat' (first | with_reducible assumption | with_reducible exact Below.refl _ _ | with_reducible refine Below.drew ?_ | with_reducible refine Below.alloc ?_ (by first | omega | (simp; omega) | (simp; done) | fail) _ | with_reducible refine Below.setCell ?_ (by first | omega | (simp; omega) | (simp; done) | fail) _ | fail)); (first | done | fail)))) HGB.out).mono ?_); rintro e w9 ⟨rfl, rfl⟩)
                  | fail)
              all_goals
                go_wp2_with fail
                go_ret
                exact SPost.no HNO.out (HB0.out.trans (hC.mono HB0.out.size))
            | true =>
              have HGB := Lib.hid hgb
              have HYES := Lib.hid (show insOk F k = true by rw [HI.out, hrb, hwb, hgb]; rfl)
              clear hrb hwb hgb
              go_region_held3 (fun w' => w'.cell? ⟨w.heap.size, 2, none⟩ = some (.int .i64 F.regs) ∧ w'.cell? ⟨w.heap.size, 8, none⟩ = some (.slice (some ⟨b, off, none⟩) F.ins.length c) ∧ w'.cell? ⟨g1, 0, none⟩ = some (.int .i64 i.op) ∧ w'.cell? ⟨g1, 1, none⟩ = some (.int .i64 i.d) ∧ w'.cell? ⟨g1, 2, none⟩ = some (.int .i64 i.a) ∧ w'.cell? ⟨g1, 3, none⟩ = some (.int .i64 i.b) ∧ w'.cell? ⟨g1, 4, none⟩ = some (.int .i64 i.t) ∧ w'.cell? ⟨g1, 5, none⟩ = some (.int .i64 i.k) ∧ w'.cell? ⟨g1, 6, none⟩ = some (.slice p7 i.l.length c7))
                (first | go_keep | exact keep9 hC (by omega) (by omega) HS.out | exact keep9 hB (by omega) (by omega) HS.out | exact keep9 hA (by omega) (by omega) HS.out | fail)
                (first
                  | (go_at_call 42; (with_reducible refine (HRE.out _ (HU0.out.keep (by ((repeat' (first | with_reducible assumption | with_reducible exact Below.refl _ _ | with_reducible refine Below.drew ?_ | with_reducible refine Below.alloc ?_ (by first | omega | (simp; omega) | (simp; done) | fail) _ | with_reducible refine Below.setCell ?_ (by first | omega | (simp; omega) | (simp; done) | fail) _ | fail)); (first | done | fail)))) (HL0.out.keep (by ((repeat' (first | with_reducible assumption | with_reducible exact Below.refl _ _ | with_reducible refine Below.drew ?_ | with_reducible refine Below.alloc ?_ (by first | omega | (simp; omega) | (simp; done) | fail) _ | with_reducible refine Below.setCell ?_ (by first | omega | (simp; omega) | (simp; done) | fail) _ | fail)); (first | done | fail)))) hll).mono ?_); rintro e wA ⟨uA, rfl, hu, hb⟩; have hA : Below W0.heap.size W0 wA := Below.trans (by ((repeat' (first | with_reducible assumption | with_reducible exact Below.refl _ _ | with_reducible refine Below.drew ?_ | with_reducible refine Below.alloc ?_ (by first | omega | (simp; omega) | (simp; done) | fail) _ | with_reducible refine Below.setCell ?_ (by first | omega | (simp; omega) | (simp; done) | fail) _ | fail)); (first | done | fail)) : Below W0.heap.size W0 _) hb; have hsA := hA.size; have HOA := Lib.hid (Mine.ri (OW.mine hu) (Nat.le_trans (readsD_len i) (by omega))); clear hu hb)
                  | (go_at_call 41; (with_reducible refine (allwithin_at (u := uA) _ (HOA.out.keep (by ((repeat' (first | with_reducible assumption | with_reducible exact Below.refl _ _ | with_reducible refine Below.drew ?_ | with_reducible refine Below.alloc ?_ (by first | omega | (simp; omega) | (simp; done) | fail) _ | with_reducible refine Below.setCell ?_ (by first | omega | (simp; omega) | (simp; done) | fail) _ | fail)); (first | done | fail)))) HRB.out).mono ?_); rintro e w9 ⟨rfl, rfl⟩)
                  | (go_at_call 43; (with_reducible refine (HWE.out _ (HU0.out.keep (by ((repeat' (first | with_reducible assumption | with_reducible exact Below.refl _ _ | with_reducible refine Below.drew ?_ | with_reducible refine Below.alloc ?_ (by first | omega | (simp; omega) | (simp; done) | fail) _ | with_reducible refine Below.setCell ?_ (by first | omega | (simp; omega) | (simp; done) | fail) _ | fail)); (first | done | fail)))) (HL0.out.keep (by ((repeat' (first | with_reducible assumption | with_reducible exact Below.refl _ _ | with_reducible refine Below.drew ?_ | with_reducible refine Below.alloc ?_ (by first | omega | (simp; omega) | (simp; done) | fail) _ | with_reducible refine Below.setCell ?_ (by first | omega | (simp; omega) | (simp; done) | fail) _ | fail)); (first | done | fail)))) hll).mono ?_); rintro e wB ⟨uB, rfl, hu, hb⟩; have hB : Below W0.heap.size W0 wB := Below.trans (by ((repeat' (first | with_reducible assumption | with_reducible exact Below.refl _ _ | with_reducible refine Below.drew ?_ | with_reducible refine Below.alloc ?_ (by first | omega | (simp; omega) | (simp; done) | fail) _ | with_reducible refine Below.setCell ?_ (by first | omega | (simp; omega) | (simp; done) | fail) _ | fail)); (first | done | fail)) : Below W0.heap.size W0 _) (hb.mono (by first | omega | (simp; omega))); have hsB := hB.size; have HOB := Lib.hid (Mine.ri (OW.mine hu) (Nat.le_trans (writesD_len i) (by omega))); clear hu hb)
                  | (go_at_call 41; (with_reducible refine (allwithin_at (u := uB) _ (HOB.out.keep (by ((repeat' (first | with_reducible assumption | with_reducible exact Below.refl _ _ | with_reducible refine Below.drew ?_ | with_reducible refine Below.alloc ?_ (by first | omega | (simp; omega) | (simp; done) | fail) _ | with_reducible refine Below.setCell ?_ (by first | omega | (simp; omega) | (simp; done) | fail) _ | fail)); (first | done | fail)))) HWB.out).mono ?_); rintro e w9 ⟨rfl, rfl⟩)
                  | (go_at_call 44; (with_reducible refine (HGE.out _ (HU0.out.keep (by ((repeat' (first | with_reducible assumption | with_reducible exact Below.refl _ _ | with_reducible refine Below.drew ?_ | with_reducible refine Below.alloc ?_ (by first | omega | (simp; omega) | (simp; done) | fail) _ | with_reducible refine Below.setCell ?_ (by first | omega | (simp; omega) | (simp; done) | fail) _ | fail)); (first | done | fail)))) (HL0.out.keep (by ((repeat' (first | with_reducible assumption | with_reducible exact Below.refl _ _ | with_reducible refine Below.drew ?_ | with_reducible refine Below.alloc ?_ (by first | omega | (simp; omega) | (simp; done) | fail) _ | with_reducible refine Below.setCell ?_ (by first | omega | (simp; omega) | (simp; done) | fail) _ | fail)); (first | done | fail)))) hll).mono ?_); rintro e wC ⟨uC, rfl, hu, hb⟩; have hC : Below W0.heap.size W0 wC := Below.trans (by ((repeat' (first | with_reducible assumption | with_reducible exact Below.refl _ _ | with_reducible refine Below.drew ?_ | with_reducible refine Below.alloc ?_ (by first | omega | (simp; omega) | (simp; done) | fail) _ | with_reducible refine Below.setCell ?_ (by first | omega | (simp; omega) | (simp; done) | fail) _ | fail)); (first | done | fail)) : Below W0.heap.size W0 _) (hb.mono (by first | omega | (simp; omega))); have hsC := hC.size; have HOC := Lib.hid (Mine.ri (OW.mine hu) (Nat.le_trans (goesD_len i k) (by omega))); clear hu hb)
                  | (go_at_call 41; (with_reducible refine (allwithin_at (u := uC) _ (HOC.out.keep (by ((repeat' (first | with_reducible assumption | with_reducible exact Below.refl _ _ | with_reducible refine Below.drew ?_ | with_reducible refine Below.alloc ?_ (by first | omega | (simp; omega) | (simp; done) | fail) _ | with_reducible refine Below.setCell ?_ (by first | omega | (simp; omega) | (simp; done) | fail) _ | fail)); (first | done | fail)))) HGB.out).mono ?_); rintro e w9 ⟨rfl, rfl⟩)
                  | fail)
              all_goals
                go_wp2_with fail
                go_roundw
                case rel => exact ⟨k + 1, by go_num, by omega, fun j h2 => by
                  by_cases e : j = k
                  · subst e; exact HYES.out
                  · exact HN.out j (by omega), HB0.out.trans (hC.mono HB0.out.size), HX0.out.keep hC hg0⟩
                case measure => simp [intOf]; omega
      · have hlz : ¬ (k : Int) < (F.ins.length : Int) := by omega
        have HALL := Lib.hid (show ∀ j, j < F.ins.length → insOk F j = true from fun j hj => HN.out j (by omega))
        obtain ⟨wo, rfl⟩ : ∃ wo : World, wo = wr := ⟨_, rfl⟩
        obtain ⟨_, _, _, _, _, _, _, _, _, _⟩ := HX.out
        go_wp2_with fail
        clear hlz
        go_loopw [6, 69] (fun _ s wx => ∃ q : Nat, s = .int .i64 q ∧ q ≤ F.regions.length ∧ (∀ j, j < q → regOk F (F.regions.getD j regZ) = true) ∧ Below w.heap.size w wx ∧ Box10 wx w.heap.size r F (.slice (some ⟨b, off, none⟩) F.ins.length c) (.slice p2 F.regions.length c2)) (fun _ s _ => F.regions.length - (intOf s).toNat)
        case atStart => exact ⟨0, rfl, Nat.zero_le _, fun j h => by omega, HB.out, HX.out⟩
        case round =>
          obtain ⟨q, rfl, hq, hno2, hb2, hbox2⟩ := hrel
          have HN2 := Lib.hid hno2
          have HB2 := Lib.hid hb2
          have HX2 := Lib.hid hbox2
          have hsz2 := hb2.size
          have hlt2 : w.heap.size < wr.heap.size := World.block_lt_of_cell? wr _ hbox2.c0
          obtain ⟨_, _, _, _, _, _, _, _, _, _⟩ := hbox2
          clear hno2 hb2
          by_cases hltq : q < F.regions.length
          · obtain ⟨b2, off2, rfl, hcell2⟩ := HP2.out (by omega)
            obtain ⟨e0, e1, e2, e3⟩ := (hcell2 q hltq).keep HB2.out
            have HI2 := Lib.hid (fun (h : regOk F (F.regions.getD q regZ) = false) => sound_reg hltq h)
            have HQ := Lib.hid (show regOk F (F.regions.getD q regZ) = regOk F (F.regions.getD q regZ) from rfl)
            obtain ⟨⟨lo, hi, to, d⟩, hrk⟩ : ∃ z, F.regions.getD q regZ = z := ⟨_, rfl⟩
            rw [hrk] at e0 e1 e2 e3 HI2
            have HRK := Lib.hid hrk
            have hqz : (q : Int) < (F.regions.length : Int) := by omega
            obtain ⟨n1, hn1⟩ : ∃ n1, inB to F.ins.length = n1 := ⟨_, rfl⟩
            obtain ⟨n2, hn2⟩ : ∃ n2, inB d F.regs = n2 := ⟨_, rfl⟩
            have H1 := Lib.hid hn1
            have H2 := Lib.hid hn2
            clear hcell2 hrk HQ hn1 hn2
            by_cases g0 : lo < 0
            · have HNO := Lib.hid (HI2.out (by unfold regOk; rw [Bool.eq_false_iff]; intro hc; simp at hc; omega))
              go_wp2_with fail
              go_ret
              exact SPost.no HNO.out (by have hb := HB2.out; ((repeat' (first | with_reducible assumption | with_reducible exact Below.refl _ _ | with_reducible refine Below.drew ?_ | with_reducible refine Below.alloc ?_ (by first | omega | (simp; omega) | (simp; done) | fail) _ | with_reducible refine Below.setCell ?_ (by first | omega | (simp; omega) | (simp; done) | fail) _ | fail)); (first | done | fail)))
            · by_cases g1 : hi < lo
              · have HNO := Lib.hid (HI2.out (by unfold regOk; rw [Bool.eq_false_iff]; intro hc; simp at hc; omega))
                go_wp2_with fail
                go_ret
                exact SPost.no HNO.out (by have hb := HB2.out; ((repeat' (first | with_reducible assumption | with_reducible exact Below.refl _ _ | with_reducible refine Below.drew ?_ | with_reducible refine Below.alloc ?_ (by first | omega | (simp; omega) | (simp; done) | fail) _ | with_reducible refine Below.setCell ?_ (by first | omega | (simp; omega) | (simp; done) | fail) _ | fail)); (first | done | fail)))
              · by_cases g2 : (F.ins.length : Int) < hi
                · have HNO := Lib.hid (HI2.out (by unfold regOk; rw [Bool.eq_false_iff]; intro hc; simp at hc; omega))
                  go_wp2_with fail
                  go_ret
                  exact SPost.no HNO.out (by have hb := HB2.out; ((repeat' (first | with_reducible assumption | with_reducible exact Below.refl _ _ | with_reducible refine Below.drew ?_ | with_reducible refine Below.alloc ?_ (by first | omega | (simp; omega) | (simp; done) | fail) _ | with_reducible refine Below.setCell ?_ (by first | omega | (simp; omega) | (simp; done) | fail) _ | fail)); (first | done | fail)))
                · cases n1 with
                  | false =>
                    have HNO := Lib.hid (HI2.out (by unfold regOk; simp only [H1.out]; simp))
                    go_wp2_with (first | (go_at_call 45; (with_reducible refine (within_at _ H1.out).mono ?_); rintro e w9 ⟨rfl, rfl⟩) | (go_at_call 45; (with_reducible refine (within_at _ H2.out).mono ?_); rintro e w9 ⟨rfl, rfl⟩) | fail)
                    go_ret
                    exact SPost.no HNO.out (by have hb := HB2.out; ((repeat' (first | with_reducible assumption | with_reducible exact Below.refl _ _ | with_reducible refine Below.drew ?_ | with_reducible refine Below.alloc ?_ (by first | omega | (simp; omega) | (simp; done) | fail) _ | with_reducible refine Below.setCell ?_ (by first | omega | (simp; omega) | (simp; done) | fail) _ | fail)); (first | done | fail)))
                  | true =>
                    cases n2 with
                    | false =>
                      have HNO := Lib.hid (HI2.out (by unfold regOk; simp only [H2.out]; simp))
                      go_wp2_with (first | (go_at_call 45; (with_reducible refine (within_at _ H1.out).mono ?_); rintro e w9 ⟨rfl, rfl⟩) | (go_at_call 45; (with_reducible refine (within_at _ H2.out).mono ?_); rintro e w9 ⟨rfl, rfl⟩) | fail)
                      go_ret
                      exact SPost.no HNO.out (by have hb := HB2.out; ((repeat' (first | with_reducible assumption | with_reducible exact Below.refl _ _ | with_reducible refine Below.drew ?_ | with_reducible refine Below.alloc ?_ (by first | omega | (simp; omega) | (simp; done) | fail) _ | with_reducible refine Below.setCell ?_ (by first | omega | (simp; omega) | (simp; done) | fail) _ | fail)); (first | done | fail)))
                    | true =>
                      have HOK := Lib.hid (show regOk F (F.regions.getD q regZ) = true by rw [HRK.out]; unfold regOk; simp only [H1.out, H2.out]; simp; omega)
                      go_wp2_with (first | (go_at_call 45; (with_reducible refine (within_at _ H1.out).mono ?_); rintro e w9 ⟨rfl, rfl⟩) | (go_at_call 45; (with_reducible refine (within_at _ H2.out).mono ?_); rintro e w9 ⟨rfl, rfl⟩) | fail)
                      go_roundw
                      case rel => exact ⟨q + 1, by go_num, by omega, fun j h2 => by
                        by_cases e : j = q
                        · subst e; exact HOK.out
                        · exact HN2.out j (by omega), by have hb := HB2.out; ((repeat' (first | with_reducible assumption | with_reducible exact Below.refl _ _ | with_reducible refine Below.drew ?_ | with_reducible refine Below.alloc ?_ (by first | omega | (simp; omega) | (simp; done) | fail) _ | with_reducible refine Below.setCell ?_ (by first | omega | (simp; omega) | (simp; done) | fail) _ | fail)); (first | done | fail)), HX2.out.keep (B := wr.heap.size) (by ((repeat' (first | with_reducible assumption | with_reducible exact Below.refl _ _ | with_reducible refine Below.drew ?_ | with_reducible refine Below.alloc ?_ (by first | omega | (simp; omega) | (simp; done) | fail) _ | with_reducible refine Below.setCell ?_ (by first | omega | (simp; omega) | (simp; done) | fail) _ | fail)); (first | done | fail))) hlt2⟩
                      case measure => simp [intOf]; omega
          · have hqz : ¬ (q : Int) < (F.regions.length : Int) := by omega
            have HY := Lib.hid (sound_yes HH.out HALL.out fun j h1 => HN2.out j (by omega))
            go_wp2_with fail
            go_ret
            exact SPost.yes HY.out HB2.out
end Go.Proofs.YtnniohimbmnapaaDoor
