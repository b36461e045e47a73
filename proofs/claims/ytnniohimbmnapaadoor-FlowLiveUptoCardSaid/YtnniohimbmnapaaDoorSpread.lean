/- Layer 10: the document's spread: a register is live ahead of its readers, and from there backwards till a way writes it. -/
import Derived.Test.YtnniohimbmnapaaDoorLawPaths
namespace Go.Proofs.YtnniohimbmnapaaDoor
open Go Go.ChangeShapes Go.WideShapes Go.RowKit
set_option linter.unusedVariables false
set_option linter.unusedSimpArgs false
attribute [local go_sem] Oper.semAt_some
theorem oi_popS {w : World} {B : Nat} {v : Value} {t : List Nat} {y : Nat} (h : OI w B v (ints (t ++ [y]))) : ∃ g c, v = .slice (some ⟨g, 0, none⟩) (t.length + 1) c ∧ OI w B (.slice (some ⟨g, 0, none⟩) t.length c) (ints t) ∧ w.cell? ⟨g, t.length, none⟩ = some (.int .i64 (y : Int)) := by
  have hl : (ints (t ++ [y])).length = t.length + 1 := by rw [ints_len]; simp
  obtain ⟨h1, h2⟩ := h
  rw [hl] at h1 h2
  rcases h2 with ⟨_, h0⟩ | ⟨g, c, cur, rfl, hb, hg, r1, r2, r3, r4⟩
  · omega
  · have e : (ints (t ++ [y])).map (Value.int .i64) = (ints t).map (Value.int .i64) ++ [.int .i64 (y : Int)] := by rw [ints_snoc]; simp
    rw [e] at r4
    refine ⟨g, c, rfl, ⟨by simp [ints_len], .inr ⟨g, c, cur, by rw [ints_len], hb, hg, by rw [ints_len]; omega, r2, r3, ?_⟩⟩, ?_⟩
    · have h3 := congrArg (List.take t.length) r4
      rw [List.take_take, Nat.mul_one, Nat.min_eq_left (by omega), List.take_left' (by simp [ints_len])] at h3
      rw [Nat.mul_one, ints_len]
      exact h3
    · have h3 := congrArg (fun l => l[t.length]?) r4
      simp only [Nat.mul_one] at h3
      rw [List.getElem?_take, if_pos (by omega), List.getElem?_append_right (by simp [ints_len])] at h3
      simp [ints_len] at h3
      simp [World.cell?, hg, h3]
theorem sl_popS (g n c : Nat) (hn : n < c) (wx : World) : (Instr.slice 31 (.slice (some ⟨g, 0, none⟩) (n + 1) c) none (some (.int .i64 (n : Int))) none).run Tryd.prog wx = .ok (.slice (some ⟨g, 0, none⟩) n c) wx := by
  rw [run_slice_h wx 31 _ (n + 1) c Tryd.underlying31 .i64 (n : Int) (by omega) (by omega)]
  have hs : (sizeOf (Tryd.prog.elem 31)).run Tryd.prog wx = .ok 1 wx := by kernel_rfl
  rw [hs]
  simp only [Result.andThen, sliced, Int.toNat_natCast, Nat.sub_zero]
  rw [if_neg (by omega)]
  rfl
def lenS : Value → Nat
  | .slice _ n _ => n
  | _ => 0
theorem ends_orS {t : List Nat} : t = [] ∨ ∃ t0 y, t = t0 ++ [y] := by
  rcases List.eq_nil_or_concat t with h | ⟨t0, y, h⟩
  · exact .inl h
  · exact .inr ⟨t0, y, by rw [h]; simp⟩
theorem way_cellS {w : World} {B : Nat} {p : Option Addr} {n c : Nat} {ls : List (Int × List Int)} (h : WO w B (.slice p n c) ls) {k : Nat} (hk : k < ls.length) : ∃ b u, p = some ⟨b, 0, none⟩ ∧ w.cell? ⟨b, k * 2, none⟩ = some (.int .i64 (ls.getD k wayZ).1) ∧ w.cell? ⟨b, k * 2 + 1, none⟩ = some u ∧ OI w B u (ls.getD k wayZ).2 := by
  obtain ⟨p', c', he, hc⟩ := way_form h
  simp only [Value.slice.injEq] at he
  obtain ⟨rfl, _, rfl⟩ := he
  exact hc k hk
theorem blk_arrS {A : World} {b : Nat} {arr : Array Value} {l : List Value} {T : TypeId} (h : b = A.heap.size) (e : arr.toList = l) : Blk (A.alloc (.cells arr T)) b l T := by
  subst h e
  unfold Blk
  rw [Array.toArray_toList]
  exact heap_alloc_new A _
set_option maxHeartbeats 2000000 in
theorem rhas_any (v : Value) (ws : List Nat) (q : Nat) (w : World) (h : Ri w v (ints ws)) :
    Calls Tryd.prog 59 #[v, .int .i64 (q : Int)] w fun e w' => e = .returned (.bool (decide (q ∈ ws))) ∧ w' = w := by
  have HR := Lib.hid h
  obtain ⟨p, c, rfl, hc, hm, hp⟩ := ri_form h
  rw [ints_len] at HR hm ⊢
  clear hp h hc
  go_enter Tryd.func59, Tryd.ntmps59
  go_wp2_with fail
  go_loop [5] (fun s => ∃ j : Nat, s = .int .i64 j ∧ j ≤ ws.length ∧ ∀ i, i < j → ws.getD i 0 ≠ q) (fun s => ws.length - (intOf s).toNat)
  case atStart => exact ⟨0, rfl, Nat.zero_le _, fun i hi => by omega⟩
  case round =>
    obtain ⟨j, rfl, hj, hno⟩ := hrel
    have HNO := Lib.hid hno
    clear hno
    by_cases hjl : j < ws.length
    · obtain ⟨bC, oC, rfl, hcC⟩ := ri_cell HR.out (k := j) (by rw [ints_len]; exact hjl)
      obtain ⟨x, hx⟩ : ∃ x, ws.getD j 0 = x := ⟨_, rfl⟩
      rw [ints_getD, hx] at hcC
      have hjz : (j : Int) < (ws.length : Int) := by omega
      have HXE := Lib.hid hx
      by_cases hxq : x = q
      · have hxb : ((x : Int) == (q : Int)) = true := by simp [hxq]
        have HM := Lib.hid (show decide (q ∈ ws) = true by rw [decide_eq_true_eq, ← hxq, ← hx, List.getD_eq_getElem?_getD, List.getElem?_eq_getElem hjl]; simp)
        clear hxq hx
        go_wp2_with fail
        go_ret
        exact ⟨ret_b HM.out.symm, rfl⟩
      · have hxb : ((x : Int) == (q : Int)) = false := by rw [beq_eq_false_iff_ne]; omega
        have HXQ := Lib.hid hxq
        clear hxq hx
        go_wp2_with fail
        go_round
        case rel => exact ⟨j + 1, by go_num, by omega, fun i hi => by
          by_cases e : i = j
          · subst e; rw [HXE.out]; exact HXQ.out
          · exact HNO.out i (by omega)⟩
        case measure => simp [intOf]; omega
    · have hjz : ¬ (j : Int) < (ws.length : Int) := by omega
      have HM := Lib.hid (show decide (q ∈ ws) = false by
        rw [decide_eq_false_iff_not]
        intro hm
        obtain ⟨i, hi, hie⟩ := List.getElem_of_mem hm
        exact HNO.out i (by omega) (by rw [List.getD_eq_getElem?_getD, List.getElem?_eq_getElem hi, hie]; rfl))
      go_wp2_with fail
      go_ret
      exact ⟨ret_b HM.out.symm, rfl⟩
/-- The rows of words. -/
def rowC (rho : Nat → Nat) (n s : Nat) : List Value := (List.range n).map fun x => .slice (some ⟨rho x, 0, none⟩) s s
structure Wl (bO n s : Nat) (rho : Nat → Nat) (W : World) (L : List (List Nat)) : Prop where
  out : Blk W bO (rowC rho n s) 52
  row : ∀ x, x < n → Blk W (rho x) ((L.getD x []).map wordV) 53
/-- The ways seen from their ends, as they lie in memory. -/
def SB (W : World) (bB n : Nat) (BB : Nat → List (Nat × List Nat)) : Prop :=
  ∀ y, y < n → ∃ p c, W.cell? ⟨bB, y, none⟩ = some (.slice p (BB y).length c) ∧ ∀ i, i < (BB y).length → ∃ b u, p = some ⟨b, 0, none⟩ ∧ W.cell? ⟨b, i * 2, none⟩ = some (.int .i64 (((BB y).getD i (0, [])).1 : Int)) ∧ W.cell? ⟨b, i * 2 + 1, none⟩ = some u ∧ Ri W u (ints ((BB y).getD i (0, [])).2)
theorem SB.keep {W W' : World} {bB n : Nat} {BB : Nat → List (Nat × List Nat)} (h : SB W bB n BB) (hb : Below W.heap.size W W') : SB W' bB n BB := fun y hy => by
  obtain ⟨p, c, h1, h2⟩ := h y hy
  refine ⟨p, c, below_cell hb h1, fun i hi => ?_⟩
  obtain ⟨b, u, e, h3, h4, h5⟩ := h2 i hi
  exact ⟨b, u, e, below_cell hb h3, below_cell hb h4, h5.keep hb⟩
def rowO : Option Obj → List Nat
  | some (.cells cs _ _) => cs.toList.map fun v => match v with | .int _ x => x.toNat | _ => 0
  | _ => []
theorem rowO_blk {A : World} {b : Nat} {l : List Nat} {T : TypeId} (h : Blk A b (l.map wordV) T) : rowO A.heap[b]? = l := by
  unfold Blk at h
  rw [h]
  unfold rowO
  simp only [List.map_map]
  conv => rhs; rw [← List.map_id l]
  refine List.map_congr_left fun x _ => ?_
  simp [wordV, Function.comp]
def potO (BB : Nat → List (Nat × List Nat)) (q : Nat) (rho : Nat → Nat) (n : Nat) (W : World) : Nat := potS BB ((List.range n).map fun y => rowO W.heap[rho y]?) q n
theorem potO_eq {BB : Nat → List (Nat × List Nat)} {q bO n s : Nat} {rho : Nat → Nat} {W : World} {L : List (List Nat)} (h : Wl bO n s rho W L) : potO BB q rho n W = potS BB L q n := by
  refine potS_eq n fun y hy => ?_
  rw [show ((List.range n).map fun y => rowO W.heap[rho y]?).getD y [] = rowO W.heap[rho y]? from by rw [List.getD_eq_getElem?_getD, List.getElem?_map, List.getElem?_range hy]; rfl, rowO_blk (h.row y hy)]
theorem rowC_at (rho : Nat → Nat) {n s y : Nat} (hy : y < n) : (rowC rho n s)[y]? = some (.slice (some ⟨rho y, 0, none⟩) s s) := by
  unfold rowC
  rw [List.getElem?_map, List.getElem?_range hy]; rfl
theorem Wl.block {bO n s : Nat} {rho : Nat → Nat} {W W' : World} {L : List (List Nat)} (h : Wl bO n s rho W L) (hk : ∀ b, b < W.heap.size → (b = bO ∨ ∃ x, x < n ∧ b = rho x) → W'.heap[b]? = W.heap[b]?) : Wl bO n s rho W' L :=
  ⟨h.out.block (hk _ h.out.lt (.inl rfl)), fun x hx => (h.row x hx).block (hk _ (h.row x hx).lt (.inr ⟨x, hx, rfl⟩))⟩
theorem Wl.ne {bO n s : Nat} {rho : Nat → Nat} {W : World} {L : List (List Nat)} (h : Wl bO n s rho W L) {x : Nat} (hx : x < n) : bO ≠ rho x := fun e => by
  have h1 := h.out
  have h2 := h.row x hx
  rw [← e] at h2
  exact absurd (h1.type h2) (by decide)
/-- A word of a row becomes another one. -/
theorem Wl.set {bO n s : Nat} {rho : Nat → Nat} {W : World} {L : List (List Nat)} (h : Wl bO n s rho W L) (hinj : ∀ x y, x < n → y < n → rho x = rho y → x = y) (hL : L.length = n) {x : Nat} (hx : x < n) (i v : Nat) :
    Wl bO n s rho (W.setCell ⟨rho x, i, none⟩ (.int .u64 (v : Int))) (L.set x ((L.getD x []).set i v)) := by
  refine ⟨h.out.block (Below.heap_setCell _ _ _ bO (h.ne hx)), fun y hy => ?_⟩
  rw [getD_setL _ _ _ _ _ (by omega)]
  by_cases e : x = y
  · subst e
    rw [if_pos rfl, List.map_set]
    exact (h.row x hx).set i _
  · rw [if_neg e]
    exact (h.row y hy).block (Below.heap_setCell _ _ _ _ (fun e2 => e (hinj x y hx hy e2.symm)))
def pushB (q : Nat) (l : List (Nat × List Nat)) : List Nat := (l.filter fun p => !decide (q ∈ p.2)).map (·.1)
theorem pushB_snoc (q : Nat) (l : List (Nat × List Nat)) (p : Nat × List Nat) : pushB q (l ++ [p]) = pushB q l ++ (if q ∈ p.2 then [] else [p.1]) := by
  unfold pushB
  rw [List.filter_append, List.map_append]
  congr 1
  by_cases h : q ∈ p.2 <;> simp [h]
theorem pushB_len (q : Nat) (l : List (Nat × List Nat)) : (pushB q l).length ≤ l.length := by
  unfold pushB
  rw [List.length_map]
  exact List.length_filter_le _ _
theorem and_pow2 (a k : Nat) : a &&& 2 ^ k = (a.testBit k).toNat * 2 ^ k := by
  refine Nat.eq_of_testBit_eq fun i => ?_
  rw [Nat.testBit_and, Nat.testBit_two_pow]
  by_cases e : k = i
  · subst e
    cases h : a.testBit k <;> simp
  · cases h : a.testBit k <;> simp [e, Nat.testBit_two_pow]
theorem bit_and {a k : Nat} (ha : a < 18446744073709551616) (hk : k < 64) : bits .and .u64 (a : Int) (IntKind.u64.wrap ((2 : Int) ^ k)) = ((a &&& 2 ^ k : Nat) : Int) := by
  rw [wrap_word hk]
  exact u64_and_nat a (2 ^ k) ha (two_lt hk)
/-- What the rounds of spread hold. -/
structure SpI (G : Gr) (BB : Nat → List (Nat × List Nat)) (L0 : List (List Nat)) (q bO n s : Nat) (rho : Nat → Nat) (w : World) (C : Nat) (tv : Value) (W : World) (L : List (List Nat)) (td : List Nat) : Prop where
  inv : SInv G BB L0 q C L td
  own : OI W w.heap.size tv (ints td)
  wl : Wl bO n s rho W L
  kw : Kw (fun b => ∀ x, x < n → b ≠ rho x) w W
def SPost10 (G : Gr) (BB : Nat → List (Nat × List Nat)) (L0 : List (List Nat)) (q bO n s : Nat) (rho : Nat → Nat) (w : World) (e : Ending) (W : World) : Prop :=
  (∃ v, e = .returned v) ∧ ∃ C L, SInv G BB L0 q C L [] ∧ Wl bO n s rho W L ∧ Kw (fun b => ∀ x, x < n → b ≠ rho x) w W
set_option maxRecDepth 100000 in
set_option maxHeartbeats 8000000 in
theorem spread_any (G : Gr) (hG : G.Ok) (BB : Nat → List (Nat × List Nat)) (hB : BackOk G BB) (bO bB : Nat) (rho : Nat → Nat) (w : World) (L0 : List (List Nat)) (td : List Nat) (tv : Value) (q C : Nat)
    (hO : Wl bO G.n G.s rho w L0) (hinj : ∀ x y, x < G.n → y < G.n → rho x = rho y → x = y) (hSB : ∀ W, Kw (fun b => ∀ x, x < G.n → b ≠ rho x) w W → SB W bB G.n BB) (htd : Ri w tv (ints td)) (hS : SInv G BB L0 q C L0 td)
    (hq : q < G.regs) (hr : G.regs ≤ 65536) (hs : 64 * G.s < G.regs + 64 ∧ G.regs ≤ 64 * G.s) (hn : G.n ≤ 1048576) (hC : C ≤ 4398046511104) (hBl : ∀ y, y < G.n → (BB y).length ≤ 4398046511104) :
    Calls Tryd.prog 52 #[.slice (some ⟨bO, 0, none⟩) G.n G.n, .slice (some ⟨bB, 0, none⟩) G.n G.n, tv, .int .i64 (q : Int)] w (SPost10 G BB L0 q bO G.n G.s rho w) := by
  have HO := Lib.hid hO
  have HSB := Lib.hid hSB
  have HTD := Lib.hid htd
  have HS := Lib.hid hS
  obtain ⟨p, c, rfl, hc, hm, hp⟩ := ri_form htd
  rw [ints_len] at HTD hm ⊢
  clear hO hSB htd hS hp hc
  obtain ⟨qd, hqd⟩ : ∃ qd, q / 64 = qd := ⟨_, rfl⟩
  obtain ⟨qm, hqm⟩ : ∃ qm, q % 64 = qm := ⟨_, rfl⟩
  have e1 : (q : Int) / 64 = (qd : Int) := by omega
  have e2 : (q : Int) % 64 = (qm : Int) := by omega
  have hqml : qm < 64 := by omega
  have hqdl : qd < G.s := by omega
  have hsh := shl_word hqml
  have hE0 : (w.alloc (.cells #[] 3)).ownsRow w.heap.size 3 1 (.slice (some ⟨w.heap.size, 0, none⟩) 0 0) 0 [] := ⟨by simp, .inr ⟨w.heap.size, 0, #[], rfl, Nat.le_refl _, heap_alloc_new w _, by omega, by simp, by simp, by simp⟩⟩
  have HE0 := Lib.hid hE0
  clear hE0
  go_enter Tryd.func52, Tryd.ntmps52
  go_wp2_with (first
    | (at_builtin; refine wpList_app rfl (.tmp 15) (.tmp 16) rfl Tryd.underlying31 infoInt rfl rfl (v := .slice (some ⟨w.heap.size, 0, none⟩) 0 0) (base := w.heap.size) (n := 0) (m := (ints td).length) (xs := []) (news := (ints td).map (Value.int .i64)) HE0.out rfl ((HTD.out.keep (by ((repeat' (first | with_reducible assumption | with_reducible exact Below.refl _ _ | with_reducible refine Below.drew ?_ | with_reducible refine Below.alloc ?_ (by first | omega | (simp; omega) | (simp; done) | fail) _ | with_reducible refine Below.setCell ?_ (by first | omega | (simp; omega) | (simp; done) | fail) _ | fail)); (first | done | fail)))).src) (ones_int _) (by unfold maxLen; rw [ints_len]; omega) (by rw [ints_len]; omega) (by simp) ?_; intro v0 w0 hap; have HAP := Lib.hid hap; clear hap)
    | fail)
  have hown0 : OI w0 w.heap.size v0 (ints td) := by
    have h := HAP.out.own
    rwa [Nat.zero_add, List.nil_append] at h
  have HST := Lib.hid (show SpI G BB L0 q bO G.n G.s rho w C v0 w0 L0 td from
    have hk : Below w.heap.size w w0 := ((Below.refl w.heap.size w).alloc (Nat.le_refl _) _).trans (HAP.out.below (by simp) (fun g hg => by simp [Value.ownBlock] at hg; omega))
    ⟨HS.out, hown0, HO.out.block fun b hb _ => hk.block b hb, Kw.all hk⟩)
  have hpt := potS_le (BB := BB) (L := L0) (r := q) G.n
  go_loopw [2] (fun s2 wx => ∃ (C1 : Nat) (L : List (List Nat)) (td1 : List Nat), C1 ≤ C ∧ SpI G BB L0 q bO G.n G.s rho w C1 s2 wx L td1) (fun s2 wx => lenS s2 + potO BB q rho G.n wx)
  case atStart => exact ⟨C, L0, td, Nat.le_refl _, HST.out⟩
  case round =>
    obtain ⟨C1, L, td1, hC1, hsp⟩ := hrel
    have HSP := Lib.hid hsp
    rcases ends_orS (t := td1) with rfl | ⟨t, y, rfl⟩
    · obtain ⟨p1, c1, rfl⟩ := own_form hsp.own
      rw [ints_len]
      clear hsp
      go_wp2_with fail
      (try simp only [Exit.inBlock, Exit.then])
      refine bodyPost_end (results_none rfl _ _ _) rfl ?_
      exact ⟨⟨_, rfl⟩, _, _, HSP.out.inv, HSP.out.wl, HSP.out.kw⟩
    · obtain ⟨g, cg, rfl, hot, hcy⟩ := oi_popS hsp.own
      have hyn := hsp.inv.todo_lt y (by simp)
      have htb := hsp.inv.bound
      have hng : t.length < cg := by
        rcases hsp.own.2 with ⟨h, _⟩ | ⟨g', c', cur, h, _, _, h2, _⟩
        · simp at h
        · simp only [Value.slice.injEq] at h
          obtain ⟨_, h3, rfl⟩ := h
          omega
      obtain ⟨n0, hn0⟩ : ∃ n0, t.length = n0 := ⟨_, rfl⟩
      rw [hn0] at hot hcy hng ⊢
      have htl : n0 + 1 ≤ 4398046511104 := by simp [hn0] at htb; omega
      have hsl := sl_popS g n0 cg hng
      have hcO := hsp.wl.out.cell (rowC_at rho (s := G.s) hyn)
      have hrw := hsp.wl.row y hyn
      have hok := hsp.inv.ok.row y hyn
      obtain ⟨dw, hdw⟩ : ∃ dw, (L.getD y []).getD qd 0 = dw := ⟨_, rfl⟩
      have hcw := hrw.word (i := qd) (by rw [hok.len]; exact hqdl)
      have hfw := hrw.frozen qd
      have hd64 := hok.lt qd
      rw [hdw] at hcw hd64
      have hhw : hasW (L.getD y []) q = dw.testBit qm := by unfold hasW; rw [hqd, hqm, hdw]
      have hand := bit_and hd64 hqml
      have hyz : (y : Int) < (G.n : Int) := by omega
      have hqz : (qd : Int) < (G.s : Int) := by omega
      have HOT := Lib.hid hot
      have HN0 := Lib.hid hn0
      have hpo := potO_eq (BB := BB) (q := q) hsp.wl
      have HPO := Lib.hid hpo
      rw [and_pow2] at hand
      cases htbb : dw.testBit qm with
      | true =>
        have HSK := Lib.hid (hsp.inv.skip (by simp) (by rw [List.getLast_concat, hhw, htbb]))
        obtain ⟨pw, hpw⟩ : ∃ pw, 2 ^ qm = pw := ⟨_, rfl⟩
        have hp0 : 0 < pw := by rw [← hpw]; exact Nat.two_pow_pos _
        have hne : ((pw : Int) != 0) = true := by simp; omega
        rw [htbb, hpw, Bool.toNat_true, Nat.one_mul] at hand
        clear hsp hot hn0 htb hrw hok hdw hhw htbb hd64 hpo hpw
        go_wp2_with fail
        go_roundw
        case rel =>
          have h := HSK.out
          rw [List.dropLast_concat] at h
          exact ⟨C1 - 1, L, t, by omega, h, HOT.out, HSP.out.wl, HSP.out.kw⟩
        case measure => simp [lenS]
      | false =>
        have HTK := Lib.hid (hsp.inv.take hG hB hq (by simp) (x := y) (by simp) (by rw [hhw, htbb]))
        rw [htbb, Bool.toNat_false, Nat.zero_mul] at hand
        have hor := set_word' hd64 hqml
        have eqw : IntKind.i64.wrap (qd : Int) = (qd : Int) := IntWalk.i64_in _ (by omega)
        have hset : setW (L.getD y []) q = (L.getD y []).set qd (dw ||| 2 ^ qm) := by unfold setW; rw [hqd, hqm, hdw]
        have HW1 := Lib.hid (show Wl bO G.n G.s rho ((wr.setCell ⟨rho y, qd, none⟩ (.int .u64 ((dw ||| 2 ^ qm : Nat) : Int))).drew) (L.set y (setW (L.getD y []) q)) from by
          rw [hset]
          exact (hsp.wl.set hinj hsp.inv.ok.len hyn qd (dw ||| 2 ^ qm)).block fun b hb _ => ((Below.refl _ _).drew).block b hb)
        have hgs := OW.lt hot rfl
        have hrl := hrw.lt
        have hgne : g ≠ rho y := fun e => by
          obtain ⟨cur, hcur⟩ : ∃ cur, wr.heap[g]? = some (.cells cur 3 (0, 0)) := by
            rcases hot.2 with ⟨h, _⟩ | ⟨g', c', cur, h, _, hh, _⟩
            · cases h
            · simp only [Value.slice.injEq, Option.some.injEq, Addr.mk.injEq] at h
              obtain ⟨⟨rfl, _⟩, _⟩ := h
              exact ⟨cur, hh⟩
          unfold Blk at hrw
          rw [← e, hcur] at hrw
          simp at hrw
        have HK1 := Lib.hid (show Kw (fun b => ∀ x, x < G.n → b ≠ rho x) w ((wr.setCell ⟨rho y, qd, none⟩ (.int .u64 ((dw ||| 2 ^ qm : Nat) : Int))).drew) from (hsp.kw.setCell _ _ (fun h => h y hyn rfl)).trans (Kw.all (Below.refl _ _).drew))
        have ho6 : OI (wr.setCell ⟨rho y, qd, none⟩ (.int .u64 ((dw ||| 2 ^ qm : Nat) : Int))) w.heap.size (.slice (some ⟨g, 0, none⟩) n0 cg) (ints t) := OW.block hot (fun g' hg' => by
          simp only [Value.ownBlock, Option.some.injEq] at hg'
          subst hg'
          exact Below.heap_setCell _ _ _ g hgne)
        have HO1 := Lib.hid (ho6.keep ((Below.refl _ _).drew))
        have HLT := Lib.hid (show (BB y).length + potS BB (L.set y (setW (L.getD y []) q)) q G.n + 1 ≤ potS BB L q G.n from by
          have h := potS_less (BB := BB) (L := L) (L' := L.set y (setW (L.getD y []) q)) (r := q) (x := y) G.n hyn (fun z hz => by
            by_cases hzn : z < L.length
            · rw [getD_setL _ _ _ _ _ (by rw [hsp.inv.ok.len]; exact hyn), if_neg (fun e => hz e.symm)]
            · simp only [List.getD_eq_getElem?_getD, List.getElem?_set_ne (fun e => hz e.symm : y ≠ z)]) (by
            rw [getD_setL _ _ _ _ _ (by rw [hsp.inv.ok.len]; exact hyn), if_pos rfl, has_set (by rw [hok.len, hqd]; exact hqdl)]
            simp) (by rw [hhw, htbb])
          omega)
        have hbsb := (HSB.out wr hsp.kw)
        clear hsp hn0 hrw hok hhw htbb hd64 hpo hset hot ho6
        go_wp2_with fail
        refine wp_region_still_tail' 16 (by kernel_rfl) (by kernel_rfl) ?_
        simp only [List.take_succ_cons, List.take_zero, List.drop_succ_cons, List.drop_zero]
        repeat still_step
        refine wpStill_nil ?_
        go_wp2_with fail
        obtain ⟨W1, hW1⟩ : ∃ W1, ((wr.setCell ⟨rho y, qd, none⟩ (.int .u64 ((dw ||| 2 ^ qm : Nat) : Int))).drew) = W1 := ⟨_, rfl⟩
        rw [hW1] at HW1 HK1 HO1 ⊢
        have hs1 : W1.heap.size = wr.heap.size := by rw [← hW1]; simp
        clear hW1
        have hbO := HO.out.out.lt
        have hbly := hBl y hyn
        have hbx : ∀ x, x < G.n → rho x < w.heap.size := fun x hx => (HO.out.row x hx).lt
        have hsw : w.heap.size ≤ wr.heap.size := HSP.out.kw.size
        have HBY := Lib.hid (HSB.out W1 HK1.out y hyn)
        clear hbsb hcO hcy hcw hfw
        obtain ⟨wA, rfl⟩ : ∃ wA : World, wA = wr := ⟨_, rfl⟩
        go_loopw [10, 2] (fun s10 s2 wx => ∃ (k : Nat) (ls : List Nat), t ++ pushB q ((BB y).take k) = ls ∧ s10 = .int .i64 k ∧ k ≤ (BB y).length ∧ OI wx w.heap.size s2 (ints ls) ∧ Kw (fun b => b < w.heap.size) W1 wx) (fun s10 _ _ => (BB y).length - (intOf s10).toNat)
        case atStart => exact ⟨0, t, by simp [pushB], rfl, Nat.zero_le _, HO1.out, Kw.refl _ _⟩
        case round =>
          obtain ⟨k, ls, hls, rfl, hk, hoi, hkw⟩ := hrel
          have hlsl : ls.length ≤ n0 + (BB y).length := by
            have h1 := pushB_len q ((BB y).take k)
            rw [← hls, List.length_append, HN0.out]
            rw [List.length_take] at h1
            omega
          have HKW2 := Lib.hid (show Kw (fun b => ∀ x, x < G.n → b ≠ rho x) w wr from ⟨hkw.os.trans HK1.out.os, hkw.tape.trans HK1.out.tape, hkw.output.trans HK1.out.output, Nat.le_trans HK1.out.size hkw.size, fun b hb hl => (hkw.block b hl (by omega)).trans (HK1.out.block b hb hl)⟩)
          obtain ⟨pB, cB, hcB, hrB⟩ := HSB.out wr HKW2.out y hyn
          have HOI := Lib.hid hoi
          have HKW := Lib.hid hkw
          have HLS := Lib.hid hls
          obtain ⟨pv, cv, rfl⟩ := own_form hoi
          rw [ints_len] at HOI ⊢
          have hsz := hkw.size
          clear hoi hkw hls
          by_cases hkl : k < (BB y).length
          · obtain ⟨bB2, u, rfl, g1, g2, g3⟩ := hrB k hkl
            obtain ⟨⟨fr, ws⟩, hfw⟩ : ∃ p, (BB y).getD k (0, []) = p := ⟨_, rfl⟩
            rw [hfw] at g1 g3
            dsimp only at g1 g3
            have HHS := Lib.hid (rhas_any u ws q wr g3)
            obtain ⟨pU, cU, rfl, _, _, _⟩ := ri_form g3
            have HPS := Lib.hid (show t ++ pushB q ((BB y).take (k + 1)) = ls ++ (if q ∈ ws then [] else [fr]) by
              rw [List.take_succ_eq_append_getElem hkl, pushB_snoc, ← List.append_assoc, HLS.out]
              rw [List.getD_eq_getElem?_getD, List.getElem?_eq_getElem hkl] at hfw
              simp only [Option.getD_some] at hfw
              rw [hfw])
            have hkz : (k : Int) < ((BB y).length : Int) := by omega
            clear hfw g3 hrB
            cases hqw : decide (q ∈ ws) with
            | true =>
              have hqm2 : q ∈ ws := of_decide_eq_true hqw
              rw [if_pos hqm2, List.append_nil] at HPS
              rw [hqw] at HHS
              clear hqm2 hqw
              go_wp2_with (first
                | (go_at_call 59; (with_reducible refine HHS.out.mono ?_); rintro e w9 ⟨rfl, rfl⟩)
                | fail)
              go_roundw
              case rel => exact ⟨k + 1, ls, HPS.out, by go_num, by omega, HOI.out, HKW.out⟩
              case measure => simp [intOf]; omega
            | false =>
              have hqm2 : ¬ q ∈ ws := of_decide_eq_false hqw
              rw [if_neg hqm2] at HPS
              rw [hqw] at HHS
              clear hqm2 hqw
              go_wp2_with (first
                | (go_at_call 59; (with_reducible refine HHS.out.mono ?_); rintro e w9 ⟨rfl, rfl⟩)
                | (at_builtin; refine wpList_app rfl (.tmp 80) (.tmp 89) rfl Tryd.underlying31 infoInt rfl rfl (v := .slice pv ls.length cv) (base := w.heap.size) (n := ls.length) (m := 1) (xs := (ints ls).map (Value.int .i64)) (news := [.int .i64 (fr : Int)]) (by have h := OW.keep HOI.out ((Below.refl _ _).alloc (Nat.le_refl _) (.cells #[.int .i64 (fr : Int)] 3)); unfold OW at h; rw [ints_len] at h; exact h) rfl (src_one rfl) (by simp [Value.oneCell']) (by unfold maxLen; omega) (by omega) (by simp; omega) ?_; intro v' w5 hap; have HAP := Lib.hid hap; clear hap)
                | fail)
              have hown : OI w5 w.heap.size v' (ints (ls ++ [fr])) := by
                have h := own_apd (ws := ints ls) (x := (fr : Int)) (by rw [ints_len]; exact HAP.out)
                rwa [← ints_snoc] at h
              have HOW := Lib.hid hown
              obtain ⟨pv', cv', rfl⟩ := own_form hown
              clear hown
              go_wp2_with fail
              go_roundw
              case rel => exact ⟨k + 1, ls ++ [fr], HPS.out, by go_num, by omega, HOW.out, (HKW.out.alloc _).grown HAP.out.grown (fun g' hg' hK => by have h1 := (OW.lt HOI.out hg').1; omega)⟩
              case measure => simp [intOf]; omega
          · have hkz : ¬ (k : Int) < ((BB y).length : Int) := by omega
            have hke : (BB y).take k = BB y := List.take_of_length_le (by omega)
            have HLE := Lib.hid (show t ++ pushB q (BB y) = ls by have h := HLS.out; rwa [hke] at h)
            have HWN := Lib.hid (HW1.out.block (W' := wr) fun b _ hb => HKW.out.block b (by rcases hb with rfl | ⟨x, hx, rfl⟩; exact hbO; exact hbx x hx) (by rcases hb with rfl | ⟨x, hx, rfl⟩; omega; have := hbx x hx; omega))
            clear hke hrB
            go_wp2_with fail
            go_roundw
            case rel =>
              refine ⟨C1 - 1, L.set y (setW (L.getD y []) q), ls, by omega, ?_, HOI.out, HWN.out, HKW2.out⟩
              have h := HTK.out
              rw [List.dropLast_concat] at h
              rw [← HLE.out]
              exact h
            case measure =>
              rw [potO_eq HWN.out, HPO.out]
              simp only [lenS]
              have := HLT.out
              omega
end Go.Proofs.YtnniohimbmnapaaDoor
