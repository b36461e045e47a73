/- Layer 12: roots.Maps of a sound function: which rows it answers, and where they lie. -/
import Derived.Test.YtnniohimbmnapaaDoorFBits
import Derived.Laws.CopyRow
namespace Go.Proofs.YtnniohimbmnapaaDoor
open Go Go.ChangeShapes Go.WideShapes Go.RowKit
set_option linter.unusedVariables false
set_option linter.unusedSimpArgs false
theorem box_all {w : World} {g : Nat} {r : RestV} {F : FuncD} {iv rv : Value} (h : Box10 w g r F iv rv) :
    w.cell? ⟨g, 0, none⟩ = some (.string r.name) ∧ w.cell? ⟨g, 1, none⟩ = some (.int .i64 F.params) ∧ w.cell? ⟨g, 2, none⟩ = some (.int .i64 F.regs) ∧ w.cell? ⟨g, 3, none⟩ = some (.int .i64 r.frees) ∧ w.cell? ⟨g, 4, none⟩ = some (.bool r.gen) ∧ w.cell? ⟨g, 5, none⟩ = some (.int .i64 r.bound) ∧ w.cell? ⟨g, 6, none⟩ = some (.slice r.np r.nn r.nc) ∧ w.cell? ⟨g, 7, none⟩ = some (.slice r.cp r.cn r.cc) ∧ w.cell? ⟨g, 8, none⟩ = some iv ∧ w.cell? ⟨g, 9, none⟩ = some rv :=
  ⟨h.c0, h.c1, h.c2, h.c3, h.c4, h.c5, h.c6, h.c7, h.c8, h.c9⟩
theorem blk_new {A : World} {b : Nat} {cs : List Value} {T : TypeId} (h : b = A.heap.size) : Blk (A.alloc (.cells cs.toArray T)) b cs T := by
  subst h
  exact heap_alloc_new A _
/-- Does instruction y take memory? -/
def alB (F : FuncD) (y : Nat) : Bool := allocB (F.ins.getD y insZ).op
def cntA (F : FuncD) : Nat → Nat
  | 0 => 0
  | y + 1 => cntA F y + (if alB F y then 1 else 0)
theorem cntA_le (F : FuncD) : ∀ y, cntA F y ≤ y
  | 0 => Nat.le_refl _
  | y + 1 => by have := cntA_le F y; unfold cntA; split <;> omega
theorem cntA_mono (F : FuncD) : ∀ {a b : Nat}, a ≤ b → cntA F a ≤ cntA F b := by
  intro a b h
  induction h with
  | refl => exact Nat.le_refl _
  | step _ ih => exact Nat.le_trans ih (by show cntA F _ ≤ cntA F _ + _; omega)
/-- The words of the maps, one map behind the other. -/
def flatA (F : FuncD) (L : List (List Nat)) : Nat → List Nat
  | 0 => []
  | y + 1 => flatA F L y ++ (if alB F y then L.getD y [] else [])
theorem flatA_len {F : FuncD} {L : List (List Nat)} {s : Nat} (h : ∀ y, y < F.ins.length → (L.getD y []).length = s) : ∀ y, y ≤ F.ins.length → (flatA F L y).length = cntA F y * s
  | 0, _ => by simp [flatA, cntA]
  | y + 1, hy => by
    have ih := flatA_len h y (by omega)
    unfold flatA cntA
    rw [List.length_append, ih, Nat.add_mul]
    cases alB F y with
    | true => simp only [if_true]; rw [h y (by omega)]; simp
    | false => simp
def outC (F : FuncD) (bA s n k : Nat) : List Value := (List.range n).map fun y => if y < k ∧ alB F y = true then .slice (some ⟨bA, cntA F y * s, none⟩) s s else .slice none 0 0
theorem outC_zero (F : FuncD) (bA s n : Nat) : outC F bA s n 0 = List.replicate n (.slice none 0 0) := by
  unfold outC
  refine List.ext_getElem (by simp) fun i h1 h2 => ?_
  simp
theorem outC_len (F : FuncD) (bA s n k : Nat) : (outC F bA s n k).length = n := by simp [outC]
theorem outC_no {F : FuncD} {bA s n k : Nat} (h : alB F k = false) : outC F bA s n (k + 1) = outC F bA s n k := by
  unfold outC
  refine List.map_congr_left fun y _ => ?_
  by_cases e : y = k
  · subst e; simp [h]
  · have hh : (y < k + 1) = (y < k) := by rw [eq_iff_iff]; omega
    simp only [hh]
theorem outC_yes {F : FuncD} {bA s n k : Nat} (h : alB F k = true) (hk : k < n) : outC F bA s n (k + 1) = (outC F bA s n k).set k (.slice (some ⟨bA, cntA F k * s, none⟩) s s) := by
  unfold outC
  refine List.ext_getElem (by simp) fun i h1 h2 => ?_
  rw [List.getElem_set]
  simp only [List.length_map, List.length_range] at h1
  by_cases e : k = i
  · subst e; simp [h]
  · rw [if_neg e]
    simp only [List.getElem_map, List.getElem_range]
    have hh : (i < k + 1) = (i < k) := by rw [eq_iff_iff]; omega
    simp only [hh]
theorem outC_at {F : FuncD} {bA s n k y : Nat} (hy : y < n) : (outC F bA s n k)[y]? = some (if y < k ∧ alB F y = true then .slice (some ⟨bA, cntA F y * s, none⟩) s s else .slice none 0 0) := by
  unfold outC
  rw [List.getElem?_map, List.getElem?_range hy]; rfl
theorem sl_three {T E : TypeId} (ht : Tryd.prog.underlying T = some (.slice (Tryd.prog.elem T))) (hsz : ∀ wx, (sizeOf (Tryd.prog.elem T)).run Tryd.prog wx = .ok 1 wx) (b n q s : Nat) (h : q * s + s ≤ n) (wx : World) :
    (Instr.slice T (.slice (some ⟨b, 0, none⟩) n n) (some (.int .i64 ((q * s : Nat) : Int))) (some (.int .i64 (((q * s : Nat) : Int) + (s : Int)))) (some (.int .i64 (((q * s : Nat) : Int) + (s : Int))))).run Tryd.prog wx = .ok (.slice (some ⟨b, q * s, none⟩) s s) wx := by
  rw [run_slice_lhm wx T _ n n ht .i64 .i64 .i64 _ _ _ (by omega) (by omega) (by omega) (by omega), hsz]
  rw [show (((q * s : Nat) : Int) + (s : Int)).toNat = q * s + s by omega, Int.toNat_natCast]
  simp only [Result.andThen, sliced, Nat.mul_one, Nat.add_sub_cancel_left]
  by_cases e : q * s + s = q * s
  · have hs0 : s = 0 := by omega
    subst hs0
    simp
  · rw [if_neg e]
    by_cases z : q * s = 0
    · rw [z]; rfl
    · simp [Addr.add, if_neg z]
theorem run_copyAt {P : Program} {w : World} {T E ty : TypeId} {g lo s : Nat} {cur : List Value} {u : Value} {ws : List Nat} (hu : P.underlying T = some (.slice E)) (hsz : (P.info? E).map (·.size) = some 1)
    (hg : Blk w g cur E) (hr : Rw w u ws) (hl : ws.length = s) (hfit : lo + s ≤ cur.length) :
    ∃ w', (Builtin.copy_ #[T, T] ty #[.slice (some ⟨g, lo, none⟩) s s, u]).run P w = .ok (goInt s) w' ∧ Kw (fun b => b ≠ g) w w' ∧ w'.heap.size = w.heap.size ∧ Blk w' g (cur.take lo ++ ws.map wordV ++ cur.drop (lo + s)) E := by
  obtain ⟨p, c, rfl, hc1, hc2, hc⟩ := rw_form hr
  by_cases h0 : s = 0
  · subst h0
    obtain rfl := List.eq_nil_of_length_eq_zero hl
    have hrun := run_copy_none (P := P) w T T ty E (some ⟨g, lo, none⟩) p 0 0 0 c hu hsz (by simp)
    exact ⟨w, hrun, Kw.refl _ _, rfl, by simpa using hg⟩
  · obtain ⟨b, off, rfl, _⟩ := hc 0 (by omega)
    have hsrc : ∀ j v, (ws.map wordV)[j]? = some v → w.cell? ((⟨b, off, none⟩ : Addr).add j) = some v := fun j v hv => by
      have hj : j < ws.length := by
        have := (List.getElem?_eq_some_iff.1 hv).1
        simpa using this
      obtain ⟨b', o', e, hcc⟩ := hc j hj
      simp only [Option.some.injEq, Addr.mk.injEq, and_true] at e
      obtain ⟨rfl, rfl⟩ := e
      have e2 : (⟨b, off, none⟩ : Addr).add j = ⟨b, off + j, none⟩ := by unfold Addr.add; split <;> simp_all
      rw [e2, hcc, ← hv, List.getElem?_map, List.getElem?_eq_getElem hj, List.getD_eq_getElem?_getD, List.getElem?_eq_getElem hj]
      rfl
    have hrun := run_copy_row (P := P) w T T ty E g lo s s ⟨b, off, none⟩ ws.length c cur.toArray E (ws.map wordV) hu hsz hg (by rw [List.length_map, hl]; exact (Nat.min_self s).symm) hsrc (by simp [hl]; omega) (ones_word ws)
    simp only [List.length_map, hl] at hrun
    exact ⟨w.setRow g (cur.take lo ++ ws.map wordV ++ cur.drop (lo + s)).toArray, by rw [hl]; exact hrun, ⟨rfl, rfl, rfl, by simp [World.setRow], fun b hb _ => setRow_other w g b _ hb⟩, by simp [World.setRow], setRow_heap w g _ _ E _ hg⟩
theorem wpList_copyAt {P : Program} {w : World} {ops : Array Oper} {rest : List Oper} {o : Oper} {a : Act} {Q : Exit → Act → World → Prop} {T E : TypeId} {g lo s : Nat} {cur : List Value} {u : Value} {ws : List Nat} (hgd : o.guard = none) (d y : Operand) (ho : o.op = .call { callee := .builtin .copy, args := #[d, y], argTypes := #[T, T] })
    (hu : P.underlying T = some (.slice E)) (hsz : (P.info? E).map (·.size) = some 1) (hd : a.eval d = .slice (some ⟨g, lo, none⟩) s s) (hy : a.eval y = u)
    (hg : Blk w g cur E) (hr : Rw w u ws) (hl : ws.length = s) (hfit : lo + s ≤ cur.length)
    (h : ∀ w', Kw (fun b => b ≠ g) w w' → w'.heap.size = w.heap.size → Blk w' g (cur.take lo ++ ws.map wordV ++ cur.drop (lo + s)) E → wpList P ops Q rest (a.put o.dst (goInt s)) w') : wpList P ops Q (o :: rest) a w :=
  wpList_plain hgd fun _ hK => by
    obtain ⟨w', hrun, h1, h2, h3⟩ := run_copyAt (P := P) (ty := o.type) hu hsz hg hr hl hfit
    unfold Oper.wp
    simp [execOp, ho, resolve, invoke, builtin, hd, hy, hrun, Result.andThen]
    exact hK _ _ (h w' h1 h2 h3)
theorem flat_step {F : FuncD} {L : List (List Nat)} {k lo s N : Nat} {ws : List Nat} (hal : alB F k = true) (hl : (flatA F L k).length = lo) (hw : L.getD k [] = ws) (hws : ws.length = s) (hN : lo + s ≤ N) :
    ((flatA F L k ++ List.replicate (N - lo) 0).map wordV).take lo ++ ws.map wordV ++ ((flatA F L k ++ List.replicate (N - lo) 0).map wordV).drop (lo + s) = (flatA F L (k + 1) ++ List.replicate (N - (lo + s)) 0).map wordV := by
  have e : flatA F L (k + 1) = flatA F L k ++ ws := by
    show flatA F L k ++ (if alB F k then L.getD k [] else []) = _
    rw [hal, if_pos rfl, hw]
  rw [e, List.map_append, List.take_append_of_le_length (by simp [hl]), List.take_of_length_le (by simp [hl]), List.drop_append, List.drop_of_length_le (by simp [hl]), List.map_append, List.map_append]
  simp only [List.length_map, hl, List.nil_append, List.append_assoc, List.map_replicate, List.drop_replicate]
  rw [show N - lo - (lo + s - lo) = N - (lo + s) by omega]
/-- What Maps answers for a sound function. -/
def MapsX (F : FuncD) (w : World) (e : Ending) (B : World) : Prop :=
  ∃ bO bA L, e = .returned (.tuple #[.slice (some ⟨bO, 0, none⟩) F.ins.length F.ins.length, .int .i64 0]) ∧ w.heap.size ≤ bO ∧ w.heap.size ≤ bA ∧ bO ≠ bA ∧
    Blk B bO (outC F bA (grOf F).s F.ins.length F.ins.length) 52 ∧ Blk B bA ((flatA F L F.ins.length).map wordV) 53 ∧ OkL (grOf F) L ∧ (∀ y, y < F.ins.length → ∀ q, hasW (L.getD y []) q = true ↔ Lv (grOf F) y q) ∧ Below w.heap.size w B
theorem made_words (n : Nat) (hn : n ≤ 1073741824) (w : World) : (Instr.makeSlice 52 (.int .i64 (n : Int)) (.int .i64 (n : Int))).run Tryd.prog w = .ok (.slice (some ⟨w.heap.size, 0, none⟩) n n) (w.alloc (.cells (Array.replicate n (.int .u64 0)) 53)) := by
  rw [mk_row Tryd.underlying52 infoU64L rfl n (by omega) (by omega) w, List.toArray_replicate]
theorem made_slices (n : Nat) (hn : n ≤ 1048576) (w : World) : (Instr.makeSlice 43 (.int .i64 (n : Int)) (.int .i64 (n : Int))).run Tryd.prog w = .ok (.slice (some ⟨w.heap.size, 0, none⟩) n n) (w.alloc (.cells (Array.replicate n (.slice none 0 0)) 52)) := by
  rw [mk_row Tryd.underlying43 infoSlU rfl n (by omega) (by omega) w, List.toArray_replicate]
set_option maxRecDepth 100000 in
set_option maxHeartbeats 8000000 in
theorem maps_yes (r : RestV) (F : FuncD) (iv rv : Value) (hs : soundB F = true) (hnn : F.ins.length ≤ 1048576) (w : World) (hU : Us w) (hI : Ii w iv F.ins) (hR : Rg w rv F.regions) :
    Calls Tryd.prog 34 #[funcV r F iv rv] w (MapsX F w) := by
  have HLY := live_yes r F iv rv hs hnn
  obtain ⟨p, c, rfl, _, _, hpi⟩ := ii_form hI
  obtain ⟨p2, c2, rfl, _, _, _⟩ := rg_form hR
  unfold funcV LiveY at HLY
  unfold funcV
  replace HLY := Lib.hid HLY
  have HPI := Lib.hid hpi
  have HSF := Lib.hid (soundF hs)
  have hr0 := HSF.out.r0
  have hr1 := HSF.out.r1
  have HX := Lib.hid (Box10.new w r F (.slice p F.ins.length c) (.slice p2 F.regions.length c2) 27)
  have HB0 := Lib.hid (show Below w.heap.size w (w.alloc (.cells #[.string r.name, .int .i64 F.params, .int .i64 F.regs, .int .i64 r.frees, .bool r.gen, .int .i64 r.bound, .slice r.np r.nn r.nc, .slice r.cp r.cn r.cc, .slice p F.ins.length c, .slice p2 F.regions.length c2] 27)) from by ((repeat' (first | with_reducible assumption | with_reducible exact Below.refl _ _ | with_reducible refine Below.drew ?_ | with_reducible refine Below.alloc ?_ (by first | omega | (simp; omega) | (simp; done) | fail) _ | with_reducible refine Below.setCell ?_ (by first | omega | (simp; omega) | (simp; done) | fail) _ | fail)); (first | done | fail)))
  have HU := Lib.hid hU
  have HI := Lib.hid hI
  have HR := Lib.hid hR
  clear hU hI hR hpi hs
  have HL := Lib.hid (HLY.out _ (HU.out.keep HB0.out) (HI.out.keep HB0.out) (HR.out.keep HB0.out))
  obtain ⟨s, hsn⟩ : ∃ s, (grOf F).s = s := ⟨_, rfl⟩
  have hse : (F.regs + 64 - 1) / 64 = (s : Int) := by
    have : (F.regs.toNat + 63) / 64 = s := hsn
    omega
  have hs1 : s ≤ 1024 := by omega
  have HSN := Lib.hid hsn
  clear hsn
  go_enter Tryd.func34, Tryd.ntmps34
  go_wp2_with (first
    | (go_at_call 23; ((with_reducible refine HL.out.mono ?_); rintro e wB ⟨vL, L, rfl, hRr, hok, hlv, hb⟩; have HB := Lib.hid (HB0.out.trans (hb.mono (by simp))); have HXB := Lib.hid (HX.out.keep hb (by simp)); obtain ⟨x0, x1, x2, x3, x4, x5, x6, x7, x8, x9⟩ := (box_all HXB.out); have HRR := Lib.hid hRr; obtain ⟨pL, cL, rfl, hLl, hLc⟩ := hRr; rw [show L.length = F.ins.length from hok.len] at hLl hLc ⊢; have HLC := Lib.hid hLc; have HLV := Lib.hid hlv; have HOK := Lib.hid hok; clear hb hlv hLc hLl hok))
    | fail)
  rw [hse]
  go_loopw [7, 31] (fun s7 s31 wx => ∃ k : Nat, s7 = .int .i64 ((cntA F k : Nat) : Int) ∧ s31 = .int .i64 k ∧ k ≤ F.ins.length ∧ Below wB.heap.size wB wx) (fun _ s31 _ => F.ins.length - (intOf s31).toNat)
  case atStart => exact ⟨0, rfl, rfl, Nat.zero_le _, Below.refl _ _⟩
  case round =>
    obtain ⟨k, rfl, rfl, hk, hb⟩ := hrel
    have HBW := Lib.hid hb
    have hcl := cntA_le F k
    by_cases hlt : k < F.ins.length
    · obtain ⟨b, off, rfl, hcell⟩ := HPI.out (by omega)
      obtain ⟨lv, hat⟩ := hcell k hlt
      obtain ⟨e0, e1, e2, e3, e4, e5, e6, e7, hll⟩ := hat.keep (HB.out.trans (hb.mono HB.out.size))
      have hal : alB F k = allocB (F.ins.getD k insZ).op := rfl
      have hcs : cntA F (k + 1) = cntA F k + (if alB F k then 1 else 0) := rfl
      generalize F.ins.getD k insZ = i at e0 e1 e2 e3 e4 e5 e6 e7 hal
      obtain ⟨p7, c7, rfl, _, _, _⟩ := ri_form e7
      have HAL := Lib.hid (allocates_any i.op (wr.alloc (.cells #[.int .i64 i.op, .int .i64 i.d, .int .i64 i.a, .int .i64 i.b, .int .i64 i.t, .int .i64 i.k, .slice p7 i.l.length c7] 50)) (HU.out.keep ((HB.out.trans (hb.mono HB.out.size)).alloc (by have := HB.out.size; have := hb.size; omega) _)))
      have hlz : (k : Int) < (F.ins.length : Int) := by omega
      clear hcell hat e7
      cases hq : alB F k with
      | true =>
        rw [hq] at hcs
        rw [← hal, hq] at HAL
        have HCS := Lib.hid (show cntA F (k + 1) = cntA F k + 1 from hcs)
        clear hb hal hcs hq
        go_wp2_with (first
          | (go_at_call 48; (with_reducible refine HAL.out.mono ?_); rintro e w9 ⟨rfl, rfl⟩)
          | fail)
        go_roundw
        case rel => exact ⟨k + 1, by rw [HCS.out]; go_num, by go_num, by omega, HBW.out.alloc HBW.out.size _⟩
        case measure => simp [intOf]; omega
      | false =>
        rw [hq] at hcs
        rw [← hal, hq] at HAL
        have HCS := Lib.hid (show cntA F (k + 1) = cntA F k from hcs)
        clear hb hal hcs hq
        go_wp2_with (first
          | (go_at_call 48; (with_reducible refine HAL.out.mono ?_); rintro e w9 ⟨rfl, rfl⟩)
          | fail)
        go_roundw
        case rel => exact ⟨k + 1, by rw [HCS.out], by go_num, by omega, HBW.out.alloc HBW.out.size _⟩
        case measure => simp [intOf]; omega
    · obtain rfl : k = F.ins.length := by omega
      obtain ⟨x0, x1, x2, x3, x4, x5, x6, x7, x8, x9⟩ := box_all (HXB.out.keep hb (World.block_lt_of_cell? _ _ HXB.out.c0))
      have hlz : ¬ ((F.ins.length : Nat) : Int) < ((F.ins.length : Nat) : Int) := by omega
      obtain ⟨C, hC⟩ : ∃ C, cntA F F.ins.length = C := ⟨_, rfl⟩
      rw [hC] at hcl ⊢
      have hNb : C * s ≤ 1048576 * 1024 := Nat.mul_le_mul (by omega) hs1
      obtain ⟨N, hN⟩ : ∃ N, C * s = N := ⟨_, rfl⟩
      rw [hN] at hNb
      have hmul : wrap64 ((C : Int) * (s : Int)) = (N : Int) := by
        rw [show (C : Int) * (s : Int) = (N : Int) by rw [← hN]; push_cast; rfl]
        unfold wrap64
        omega
      have hmkA := made_words N (by omega)
      have hmkO := made_slices F.ins.length hnn
      have hblt := World.block_lt_of_cell? _ _ x8
      dsimp only at hblt
      have HC := Lib.hid hC
      have HN := Lib.hid hN
      clear hb hC hN
      obtain ⟨wA, rfl⟩ : ∃ wA : World, wA = wr := ⟨_, rfl⟩
      go_wp2_with fail
      have hA0 : Blk ((wA.alloc (.cells (Array.replicate N (.int .u64 0)) 53)).alloc (.cells (Array.replicate F.ins.length (.slice none 0 0)) 52)) wA.heap.size ((flatA F L 0 ++ List.replicate (N - 0) 0).map wordV) 53 := by
        have h := (blk_new (A := wA) (cs := List.replicate N (Value.int .u64 0)) (T := 53) rfl)
        rw [List.toArray_replicate] at h
        have h2 := h.block (B := (wA.alloc (.cells (Array.replicate N (.int .u64 0)) 53)).alloc (.cells (Array.replicate F.ins.length (.slice none 0 0)) 52)) (Below.heap_alloc _ _ _ (by simp))
        simpa [flatA, List.map_replicate, wordV] using h2
      have hO0 : Blk ((wA.alloc (.cells (Array.replicate N (.int .u64 0)) 53)).alloc (.cells (Array.replicate F.ins.length (.slice none 0 0)) 52)) (wA.heap.size + 1) (outC F wA.heap.size s F.ins.length 0) 52 := by
        have h := (blk_new (A := wA.alloc (.cells (Array.replicate N (.int .u64 0)) 53)) (b := wA.heap.size + 1) (cs := List.replicate F.ins.length (Value.slice none 0 0)) (T := 52) (by simp))
        rw [List.toArray_replicate] at h
        rw [outC_zero]
        exact h
      have HA0 := Lib.hid hA0
      have HO0 := Lib.hid hO0
      clear hA0 hO0 hmkA hmkO
      have HRL := Lib.hid (fun y (hy : y < F.ins.length) => (HOK.out.row y hy).len)
      have HLN := Lib.hid (flatA_len (F := F) (L := L) (s := s) fun y hy => by rw [← HSN.out]; exact HRL.out y hy)
      clear x0 x1 x2 x3 x4 x5 x6 x7 x8 x9
      have HBA := Lib.hid (HB.out.trans (HBW.out.mono HB.out.size))
      go_loopw [12, 52] (fun s12 s52 wx => ∃ k lo : Nat, cntA F k * s = lo ∧ s12 = .int .i64 lo ∧ s52 = .int .i64 k ∧ k ≤ F.ins.length ∧ Blk wx (wA.heap.size + 1) (outC F wA.heap.size s F.ins.length k) 52 ∧ Blk wx wA.heap.size ((flatA F L k ++ List.replicate (N - lo) 0).map wordV) 53 ∧ Below wA.heap.size wA wx) (fun _ s52 _ => F.ins.length - (intOf s52).toNat)
      case atStart => exact ⟨0, 0, by simp [cntA], rfl, rfl, Nat.zero_le _, HO0.out, HA0.out, by ((repeat' (first | with_reducible assumption | with_reducible exact Below.refl _ _ | with_reducible refine Below.drew ?_ | with_reducible refine Below.alloc ?_ (by first | omega | (simp; omega) | (simp; done) | fail) _ | with_reducible refine Below.setCell ?_ (by first | omega | (simp; omega) | (simp; done) | fail) _ | fail)); (first | done | fail))⟩
      case round =>
        obtain ⟨k, lo, hlo0, rfl, rfl, hk, hbo, hba, hb⟩ := hrel
        have HLO := Lib.hid hlo0
        have HBB := Lib.hid hb
        have HBO := Lib.hid hbo
        have HBAA := Lib.hid hba
        by_cases hlt : k < F.ins.length
        · obtain ⟨b, off, rfl, hcell⟩ := HPI.out (by omega)
          obtain ⟨lv, hat⟩ := hcell k hlt
          obtain ⟨e0, e1, e2, e3, e4, e5, e6, e7, hll⟩ := hat.keep (HBA.out.trans (hb.mono HBA.out.size))
          have hal : alB F k = allocB (F.ins.getD k insZ).op := rfl
          have hcs : cntA F (k + 1) = cntA F k + (if alB F k then 1 else 0) := rfl
          generalize F.ins.getD k insZ = i at e0 e1 e2 e3 e4 e5 e6 e7 hal
          obtain ⟨p7, c7, rfl, _, _, _⟩ := ri_form e7
          have HAL := Lib.hid (allocates_any i.op (wr.alloc (.cells #[.int .i64 i.op, .int .i64 i.d, .int .i64 i.a, .int .i64 i.b, .int .i64 i.t, .int .i64 i.k, .slice p7 i.l.length c7] 50)) (HU.out.keep ((HBA.out.trans (hb.mono HBA.out.size)).alloc (by have := HBA.out.size; have := hb.size; omega) _)))
          have hlz2 : (k : Int) < (F.ins.length : Int) := by omega
          have hlo := hbo.lt
          clear hcell hat e7 hlz
          cases hq : alB F k with
          | false =>
            rw [hq] at hcs
            rw [← hal, hq] at HAL
            have HCS := Lib.hid (show cntA F (k + 1) = cntA F k from hcs)
            have HOC := Lib.hid (outC_no (F := F) (bA := wA.heap.size) (s := s) (n := F.ins.length) (k := k) hq)
            have HFL := Lib.hid (show flatA F L (k + 1) = flatA F L k by show flatA F L k ++ (if alB F k then L.getD k [] else []) = _; rw [hq]; simp)
            clear hb hal hcs hq hbo hba hlo0
            go_wp2_with (first
              | (go_at_call 48; (with_reducible refine HAL.out.mono ?_); rintro e w9 ⟨rfl, rfl⟩)
              | fail)
            go_roundw
            case rel => exact ⟨k + 1, lo, by rw [HCS.out]; exact HLO.out, rfl, by go_num, by omega, by rw [HOC.out]; exact HBO.out.block (Below.heap_alloc _ _ _ hlo), by rw [HFL.out]; exact HBAA.out.block (Below.heap_alloc _ _ _ (by omega)), HBB.out.alloc HBB.out.size _⟩
            case measure => simp [intOf]; omega
          | true =>
            rw [hq] at hcs
            rw [← hal, hq] at HAL
            have hcs1 : cntA F (k + 1) = cntA F k + 1 := hcs
            have hle : cntA F (k + 1) ≤ C := by rw [← HC.out]; exact cntA_mono F (by omega)
            have hloN : lo + s ≤ N := by
              have h1 : (cntA F k + 1) * s ≤ C * s := Nat.mul_le_mul_right _ (by omega)
              rw [Nat.add_mul, Nat.one_mul, hlo0, HN.out] at h1
              exact h1
            have HLS := Lib.hid (show cntA F (k + 1) * s = lo + s by rw [hcs1, Nat.add_mul, Nat.one_mul, hlo0])
            have hsl := fun wx => sl_three (T := 52) (E := 53) Tryd.underlying52 (fun wx => by kernel_rfl) wA.heap.size N (cntA F k) s (by rw [hlo0]; exact hloN) wx
            rw [hlo0] at hsl
            have HOC := Lib.hid (outC_yes (F := F) (bA := wA.heap.size) (s := s) (n := F.ins.length) (k := k) hq hlt)
            rw [hlo0] at HOC
            obtain ⟨bL, oL, u, rfl, hcu, hrw⟩ := HLC.out k hlt
            have hcuA := below_cell HBW.out hcu
            have hrwA := hrw.keep HBW.out
            have hbLA := World.block_lt_of_cell? _ _ hcuA
            dsimp only at hbLA
            replace hcu := below_cell hb hcuA
            obtain ⟨row, hrow⟩ : ∃ row, L.getD k [] = row := ⟨_, rfl⟩
            rw [hrow] at hrw hrwA
            obtain ⟨pu, cu, rfl, _, _, _⟩ := rw_form hrw
            have hrl : row.length = s := by rw [← hrow, ← HSN.out]; exact HRL.out k hlt
            have HROW := Lib.hid hrow
            have HRLL := Lib.hid hrl
            have HFS := Lib.hid (flat_step (F := F) (L := L) (k := k) (lo := lo) (s := s) (N := N) hq (by rw [HLN.out k hk]; exact hlo0) hrow hrl hloN)
            have hlf : lo + s ≤ ((flatA F L k ++ List.replicate (N - lo) 0).map wordV).length := by simp [HLN.out k hk, hlo0]; omega
            have hco7 := alloc_cell (hbo.cell (i := k) (outC_at hlt)) (.cells #[.int .i64 i.op, .int .i64 i.d, .int .i64 i.a, .int .i64 i.b, .int .i64 i.t, .int .i64 i.k, .slice p7 i.l.length c7] 50)
            have hfo7 := (hbo.block (Below.heap_alloc wr (.cells #[.int .i64 i.op, .int .i64 i.d, .int .i64 i.a, .int .i64 i.b, .int .i64 i.t, .int .i64 i.k, .slice p7 i.l.length c7] 50) _ hlo)).frozen k
            have hbo8 := hbo.set k (.slice (some ⟨wA.heap.size, lo, none⟩) s s)
            have hba8 := hba.block (Below.heap_setCell wr ⟨wA.heap.size + 1, k, none⟩ (.slice (some ⟨wA.heap.size, lo, none⟩) s s) wA.heap.size (by dsimp only; omega))
            have hbb8 := (HBB.out.setCell (p := ⟨wA.heap.size + 1, k, none⟩) (by dsimp only; omega) (.slice (some ⟨wA.heap.size, lo, none⟩) s s))
            have hcu8 := (hbb8.alloc hbb8.size (.cells #[.int .i64 i.op, .int .i64 i.d, .int .i64 i.a, .int .i64 i.b, .int .i64 i.t, .int .i64 i.k, .slice p7 i.l.length c7] 50)).cell (p := ⟨bL, oL + k, none⟩) hbLA |>.trans hcuA
            have hco8 := alloc_cell (hbo8.cell (i := k) (v := .slice (some ⟨wA.heap.size, lo, none⟩) s s) (by rw [List.getElem?_set_self (by rw [outC_len]; exact hlt)])) (.cells #[.int .i64 i.op, .int .i64 i.d, .int .i64 i.a, .int .i64 i.b, .int .i64 i.t, .int .i64 i.k, .slice p7 i.l.length c7] 50)
            have HBO8 := Lib.hid (hbo8.block (Below.heap_alloc _ (.cells #[.int .i64 i.op, .int .i64 i.d, .int .i64 i.a, .int .i64 i.b, .int .i64 i.t, .int .i64 i.k, .slice p7 i.l.length c7] 50) _ hbo8.lt))
            have HBA8 := Lib.hid (hba8.block (Below.heap_alloc _ (.cells #[.int .i64 i.op, .int .i64 i.d, .int .i64 i.a, .int .i64 i.b, .int .i64 i.t, .int .i64 i.k, .slice p7 i.l.length c7] 50) _ hba8.lt))
            have HBB8 := Lib.hid (hbb8.alloc hbb8.size (.cells #[.int .i64 i.op, .int .i64 i.d, .int .i64 i.a, .int .i64 i.b, .int .i64 i.t, .int .i64 i.k, .slice p7 i.l.length c7] 50))
            have HRWA := Lib.hid hrwA
            clear hb hal hcs hcs1 hle hq hbo hba hlo0 hrow hrl hcu hrw hcuA hrwA hbo8 hba8 hbb8
            go_wp2_with (first
              | (go_at_call 48; (with_reducible refine HAL.out.mono ?_); rintro e w9 ⟨rfl, rfl⟩)
              | fail)
            refine wp_region_still_tail' 8 (by kernel_rfl) (by kernel_rfl) ?_
            simp only [List.take_succ_cons, List.take_zero, List.drop_succ_cons, List.drop_zero]
            repeat still_step
            refine wpStill_nil ?_
            refine wpList_copyAt rfl (.tmp 76) (.tmp 80) rfl Tryd.underlying52 (by kernel_rfl) rfl rfl (HBA8.out.block rfl) (HRWA.out.keep HBB8.out.drew) HRLL.out hlf ?_
            intro w9 hk9 hs9 hb9
            rw [HFS.out] at hb9
            have HK9 := Lib.hid hk9
            have HB9 := Lib.hid hb9
            clear hk9 hb9
            go_wp2_with fail
            go_roundw
            case rel => exact ⟨k + 1, lo + s, HLS.out, by go_num, by go_num, by omega, by rw [HOC.out]; exact (HBO8.out.block rfl).block (HK9.out.block _ (by omega) (by have := HBO8.out.lt; exact this)), HB9.out, HBB8.out.drew.trans (HK9.out.below (n := wA.heap.size) (by have := HBB8.out.size; exact this) (fun b hb => by omega))⟩
            case measure => simp [intOf]; omega
        · obtain rfl : k = F.ins.length := by omega
          have hlz3 : ¬ ((F.ins.length : Nat) : Int) < ((F.ins.length : Nat) : Int) := by omega
          have HNL := Lib.hid (show N - lo = 0 by rw [← hlo0, HC.out, HN.out]; omega)
          clear hb hbo hba hlo0 hlz
          go_wp2_with fail
          go_ret2
          refine ⟨wA.heap.size + 1, wA.heap.size, L, rfl, ?_, ?_, by omega, ?_, ?_, HOK.out, HLV.out, HBA.out.trans (HBB.out.mono HBA.out.size)⟩
          · have := HBA.out.size; omega
          · exact HBA.out.size
          · rw [HSN.out]; exact HBO.out
          · have h := HBAA.out
            rw [HNL.out] at h
            simpa using h
end Go.Proofs.YtnniohimbmnapaaDoor
