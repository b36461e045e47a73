/- Layer 19, the document's answer: Orders. -/
import Derived.Test.YtfddcmapjnkhhaaMRefMerge
import Derived.Test.YtfddcmapjnkhhaaMPure2
import Derived.Maps.AppendAt
import Derived.Laws.AppendOwnNone
import Derived.WalkSpells
namespace Go.Proofs.Ytfddcmapjnkhhaa
open Go.ChangeShapes Go.WideShapes Go.RowKit
set_option linter.unusedVariables false
set_option linter.unusedSimpArgs false
theorem infoSl : (Try.prog.info? 24).map (fun i => (i.zero, i.size, i.bytes)) = some (some (.slice none 0 0), 1, 24) := by kernel_rfl
/-- An order as the table holds it: nil, where there is none. -/
def Ent (w : World) (u : Value) : Option (List Int) → Prop
  | none => u = .slice none 0 0
  | some l => ∃ b off n c, u = .slice (some ⟨b, off, none⟩) n c ∧ Ri w u l ∧ 0 < l.length
def Away (u : Value) (g : Option Nat) : Prop := ∀ b off s n c, u = .slice (some ⟨b, off, s⟩) n c → some b ≠ g
theorem Ent.keep {w w' : World} {u : Value} {g : Option Nat} : ∀ {o : Option (List Int)}, Ent w u o → Away u g → (∀ k, k < w.heap.size → some k ≠ g → w'.heap[k]? = w.heap[k]?) → Ent w' u o
  | none, h, _, _ => h
  | some l, ⟨b, off, n, c, e, hr, hl⟩, ha, hk => by
    refine ⟨b, off, n, c, e, ?_, hl⟩
    rcases hr with ⟨p, _, rfl⟩ | ⟨b', off', c', e', h1, h2, h3⟩
    · simp at hl
    · refine .inr ⟨b', off', c', e', h1, h2, fun i hi => ?_⟩
      have hc := h3 i hi
      exact (World.cell?_of_block (a := ⟨b', off' + i, none⟩) (hk b' (World.block_lt_of_cell? w _ hc) (ha b' off' none _ c' e'))).trans hc
theorem Ent.lt {w : World} {u : Value} : ∀ {o : Option (List Int)}, Ent w u o → ∀ b off s n c, u = .slice (some ⟨b, off, s⟩) n c → b < w.heap.size
  | none, h, b, off, s, n, c, e => by have h1 : u = .slice none 0 0 := h; rw [h1] at e; simp at e
  | some l, ⟨b', off', n', c', e', hr, hl⟩, b, off, s, n, c, e => by
    rcases hr with ⟨p, _, rfl⟩ | ⟨b2, off2, c2, e2, h1, h2, h3⟩
    · simp at hl
    · rw [e2] at e
      simp only [Value.slice.injEq, Option.some.injEq, Addr.mk.injEq] at e
      obtain ⟨⟨rfl, _⟩, _⟩ := e
      exact World.block_lt_of_cell? w _ (h3 0 hl)
def sel (vs : List Value) (b : Int) : Value := vs.getD b.toNat (.slice none 0 0)
/-- The table so far. -/
structure Tab (w : World) (B0 : Nat) (ov : Value) (bs : List (List Int)) (c : Nat) (vs : List Value) : Prop where
  own : w.ownsRow B0 TI 1 ov c vs
  ent : ∀ i, i < c → Ent w (sel vs (i : Int)) (ord bs (i : Int)) ∧ Away (sel vs (i : Int)) ov.ownBlock
theorem Tab.len {w : World} {B0 : Nat} {ov : Value} {bs : List (List Int)} {c : Nat} {vs : List Value} (h : Tab w B0 ov bs c vs) : vs.length = c := by have := h.own.1; omega
theorem Tab.keep {w w' : World} {B0 : Nat} {ov : Value} {bs : List (List Int)} {c : Nat} {vs : List Value} (h : Tab w B0 ov bs c vs) (hb : Below w.heap.size w w') : Tab w' B0 ov bs c vs :=
  ⟨World.ownsRow.kept (row := none) h.own ⟨hb.os, hb.tape, hb.output, hb.size, fun k hk _ => hb.block k hk⟩ (by cases ov.ownBlock <;> simp), fun i hi => ⟨(h.ent i hi).1.keep (h.ent i hi).2 (fun k hk _ => hb.block k hk), (h.ent i hi).2⟩⟩
theorem sel_append {vs : List Value} {u : Value} {i : Nat} (hi : i < vs.length) : sel (vs ++ [u]) (i : Int) = sel vs (i : Int) := by
  unfold sel
  simp only [Int.toNat_natCast, List.getD_eq_getElem?_getD]
  rw [List.getElem?_append_left hi]
theorem sel_last {vs : List Value} {u : Value} : sel (vs ++ [u]) (vs.length : Int) = u := by
  unfold sel
  simp [List.getD_eq_getElem?_getD]
/-- One more order behind an append. -/
theorem Tab.snoc {w w1 w2 : World} {B0 : Nat} {ov ov' : Value} {bs : List (List Int)} {c : Nat} {vs : List Value} {u : Value} (h : Tab w B0 ov bs c vs) (hown : w2.ownsRow B0 TI 1 ov' (c + 1) (vs ++ [u]))
    (hb : Below w.heap.size w w1) (hg : w1.grownBy w2 ov.ownBlock) (hat : ov'.ownBlock = ov.ownBlock ∨ ov'.ownBlock = some w1.heap.size) (hu : Ent w1 u (ord bs (c : Int))) (hua : Away u ov.ownBlock) : Tab w2 B0 ov' bs (c + 1) (vs ++ [u]) := by
  have h1 := h.keep hb
  have hk : ∀ k, k < w1.heap.size → some k ≠ ov.ownBlock → w2.heap[k]? = w1.heap[k]? := fun k hk hne => hg.block k hk hne
  have away : ∀ {v : Value} {o : Option (List Int)}, Ent w1 v o → Away v ov.ownBlock → Away v ov'.ownBlock := fun {v o} he ha b off s n c e => by
    rcases hat with hat | hat
    · rw [hat]; exact ha b off s n c e
    · rw [hat]; have := he.lt b off s n c e; simp; omega
  refine ⟨hown, fun i hi => ?_⟩
  by_cases e : i < c
  · rw [sel_append (by rw [h.len]; exact e)]
    exact ⟨(h1.ent i e).1.keep (h1.ent i e).2 hk, away (h1.ent i e).1 (h1.ent i e).2⟩
  · obtain rfl : i = c := by omega
    have hl := h.len
    rw [← hl, sel_last, hl]
    exact ⟨hu.keep hua hk, away hu hua⟩
def OrdersPost (W : World) (bs : List (List Int)) (e : Ending) (w' : World) : Prop := ∃ ov vs, e = .returned ov ∧ Tab w' W.heap.size ov bs bs.length vs ∧ Below W.heap.size W w'
theorem all_some {o : Int → Option (List Int)} : ∀ {l : List Int}, (l.all fun b => (o b).isSome) = true → ∃ ls : List (List Int), l.map o = ls.map some
  | [], _ => ⟨[], rfl⟩
  | b :: r, h => by
    simp only [List.all_cons, Bool.and_eq_true] at h
    obtain ⟨ls, e⟩ := all_some h.2
    cases hb : o b with
    | none => rw [hb] at h; simp at h
    | some x => exact ⟨x :: ls, by simp [hb, e]⟩
theorem own_oneI (w : World) (x : Int) : (w.alloc (.cells #[.int .i64 x] 3)).ownsRow w.heap.size 3 1 (.slice (some ⟨w.heap.size, 0, none⟩) 1 1) 1 [.int .i64 x] :=
  ⟨rfl, .inr ⟨w.heap.size, 1, #[.int .i64 x], rfl, Nat.le_refl _, heap_alloc_new w _, Nat.le_refl _, by unfold maxLen; omega, rfl, rfl⟩⟩
theorem addZ (g j : Nat) : (⟨g, 0, none⟩ : Addr).add j = ⟨g, j, none⟩ := by cases j <;> simp [Addr.add]
theorem own_grown {w w1 : World} {x : Value} {T : TypeId} (h : (w.alloc (.cells #[x] T)).grownBy w1 (Value.ownBlock (.slice (some ⟨w.heap.size, 0, none⟩) 1 1))) : Below w.heap.size w w1 :=
  ((Below.refl _ _).alloc (Nat.le_refl _) _).grown h (by simp) (fun q hq => Nat.le_of_eq (Option.some.inj (show some w.heap.size = some q from hq)))
theorem ownI_mine {w : World} {B : Nat} {T : TypeId} {v : Value} {x : Int} {mo : List Int} (h : w.ownsRow B T 1 v (1 + mo.length) ([Value.int .i64 x] ++ mo.map (Value.int .i64))) :
    ∃ g c, B ≤ g ∧ v = .slice (some ⟨g, 0, none⟩) (1 + mo.length) c ∧ Hid (Mine .i64 T w B (.slice (some ⟨g, 0, none⟩) (1 + mo.length) c) (x :: mo)) := by
  have hO : OW .i64 T w B v (x :: mo) := by
    unfold OW
    rw [List.length_cons, Nat.add_comm mo.length 1]
    exact h
  have hM := hO.mine
  rcases hM with ⟨_, h⟩ | ⟨g3, c3, cur3, e3, r1, r2, r3, r⟩
  · cases h
  · have e4 : v = .slice (some ⟨g3, 0, none⟩) (1 + mo.length) c3 := by rw [e3, List.length_cons, Nat.add_comm]
    subst e4
    exact ⟨g3, c3, r3, rfl, Lib.hid hO.mine⟩
theorem ownI_form {w : World} {B : Nat} {T : TypeId} {v : Value} {n : Nat} {xs : List Value} (h : w.ownsRow B T 1 v (1 + n) xs) : ∃ g c, v = .slice (some ⟨g, 0, none⟩) (1 + n) c := by
  rcases h.2 with ⟨_, h0⟩ | ⟨g, cap, cur, e, _⟩
  · omega
  · exact ⟨g, cap, e⟩
theorem take_snocI {l : List Int} {k : Nat} (h : k < l.length) : l.take (k + 1) = l.take k ++ [l.getD k 0] := by
  rw [List.take_succ_eq_append_getElem h]; simp [List.getD_eq_getElem?_getD, h]
theorem one_newV (w : World) (x : Value) (T : TypeId) : ∀ j u, [x][j]? = some u → (w.alloc (.cells #[x] T)).cell? ((⟨w.heap.size, 0, none⟩ : Addr).add j) = some u := by
  intro j u hj
  obtain rfl : j = 0 := by
    rw [List.getElem?_eq_some_iff] at hj
    obtain ⟨h, _⟩ := hj
    simpa using h
  simp at hj
  subst hj
  simp [Addr.add]
theorem own_below {w0 w w1 : World} {o : Obj} {B : Nat} {T : TypeId} {v : Value} {n : Nat} {xs : List Value} (h : w.ownsRow B T 1 v n xs) (hb : Below w0.heap.size w0 w) (hg : (w.alloc o).grownBy w1 v.ownBlock) (hB : w0.heap.size ≤ B) : Below w0.heap.size w0 w1 := by
  have hl := World.ownsRow.lt h
  exact (hb.alloc hb.size _).grown hg (hb.alloc hb.size _).size (fun x hx => by have := hl x hx; omega)
theorem Tab.cell {w : World} {B0 : Nat} {p : Option Addr} {cv : Nat} {bs : List (List Int)} {c : Nat} {vs : List Value} (h : Tab w B0 (.slice p c cv) bs c vs) {q : Nat} (hq : q < c) : ∃ g, p = some ⟨g, 0, none⟩ ∧ w.cell? ⟨g, q, none⟩ = some (sel vs (q : Int)) := by
  have hl := h.len
  rcases h.own.2 with ⟨e, h0⟩ | ⟨g, cap, cur, e, hg, r1, r2, r3, r4, r5⟩
  · rw [h0] at hl; simp at hl; omega
  · simp only [Value.slice.injEq] at e
    refine ⟨g, e.1, ?_⟩
    have e2 := congrArg (fun l => l[q]?) r5
    simp only [List.getElem?_take] at e2
    rw [if_pos (by omega)] at e2
    rw [Array.getElem?_toList] at e2
    simp only [World.cell?, r1, e2]
    unfold sel
    simp [List.getD_eq_getElem?_getD, List.getElem?_eq_getElem (show q < vs.length by omega)]
/-- What refmerge wants of the lists that an order is merged of. -/
theorem lists_rows {w : World} {B1 : Nat} {lv : Value} {us : List Value} {ls : List (List Int)} (h : w.ownsRow B1 TI 1 lv us.length us) (hl : us.length = ls.length) (h0 : 0 < us.length)
    (he : ∀ i, i < ls.length → ∃ u, us[i]? = some u ∧ Ri w u (ls.getD i []) ∧ ∀ b off s n c, ls.getD i [] ≠ [] → u = .slice (some ⟨b, off, s⟩) n c → b < B1) (hB : B1 ≤ w.heap.size) :
    ∃ g c, lv = .slice (some ⟨g, 0, none⟩) ls.length c ∧ ls.length ≤ c ∧ B1 ≤ g ∧ Rows TI w w.heap.size g ls := by
  obtain ⟨g, c, e, hc, hg, hr⟩ := Rows.of_owns (B := w.heap.size) (ls := ls) h hl h0
  refine ⟨g, c, e, hc, hg, hr fun i hi => ?_⟩
  obtain ⟨u, hu, hri, hb⟩ := he i hi
  exact ⟨u, hu, hri, fun b off s n c hne e => by have := hb b off s n c hne e; omega⟩
set_option maxRecDepth 100000 in
set_option maxHeartbeats 8000000 in
theorem reforders_any (u : Value) (bs : List (List Int)) (w : World) (h : Rm w u bs) (hm : bs.length ≤ 200) (hf : FitP bs) :
    Calls Try.prog 18 #[u] w (OrdersPost w bs) := by
  obtain ⟨i0, hi, hz0, hz1, hz2⟩ := info_parts infoInt
  obtain ⟨i1, hj, hy0, hy1, hy2⟩ := info_parts infoSl
  obtain ⟨p, c, rfl, hc, _, hp⟩ := rm_form h
  have HP := Lib.hid hp
  have HF := Lib.hid hf
  have neq1 := fun (wx : World) => run_neq_slice_nil_any (P := Try.prog) wx 24 3 none 0 0 0 0 Try.underlying24
  have neq2 := fun (wx : World) (a : Addr) (n c : Nat) => run_neq_slice_nil_any (P := Try.prog) wx 24 3 (some a) n c 0 0 Try.underlying24
  clear hp h hf
  go_enter Try.func18, Try.ntmps18
  go_wp2
  go_loopw [3, 4, 5, 6, 7, 8, 9] (fun ov s a5 a6 a7 a8 a9 wr => ∃ (c : Nat) (vs : List Value), s = .int .i64 c ∧ c ≤ bs.length ∧ Tab wr w.heap.size ov bs c vs ∧ Below w.heap.size w wr) (fun _ s _ _ _ _ _ _ => bs.length - (intOf s).toNat)
  case atStart => exact ⟨0, [], rfl, Nat.zero_le _, ⟨World.ownsRow_nil _ _ _ _, fun i h => by omega⟩, Below.refl _ _⟩
  case round =>
    obtain ⟨k, vs, rfl, hkl, hT, hB⟩ := hrel
    have HT := Lib.hid hT
    have HB := Lib.hid hB
    clear hB
    by_cases hlt : k < bs.length
    · obtain ⟨b, off, rfl, hcell⟩ := HP.out (by omega)
      obtain ⟨v, hci, hr⟩ := hcell k hlt
      have hcib := below_cell HB.out hci
      obtain ⟨l, hl⟩ : ∃ l, bs.getD k [] = l := ⟨_, rfl⟩
      rw [hl] at hr
      have HL := Lib.hid hl
      have HR := Lib.hid (hr.keep HB.out)
      obtain ⟨p2, c2, rfl, hc2, hm2, hp2⟩ := ri_form hr
      have HP2 := Lib.hid hp2
      have HFA := Lib.hid (show FitAt k l from by rw [← hl]; exact HF.out.at k)
      have HLL := Lib.hid (show l.length ≤ k from by rw [← hl]; exact fit_len HF.out k)
      have hlz : (k : Int) < (bs.length : Int) := by omega
      obtain ⟨pv, cv, rfl⟩ : ∃ pv cv, u3 = .slice pv k cv := by
        rcases hT.own.2 with ⟨e, h0⟩ | ⟨g, cap, cur, e, _⟩
        · exact ⟨none, 0, by rw [e, h0]⟩
        · exact ⟨_, cap, e⟩
      obtain ⟨wo, rfl⟩ : ∃ wo : World, wo = wr := ⟨_, rfl⟩
      clear hcell hr hl hp2 hT hci
      go_wp2
      go_loopw [5, 6, 7, 8] (fun lv gd s a8 wx => ∃ (i : Nat) (g : Bool), s = .int .i64 i ∧ gd = .bool g ∧ i ≤ l.length ∧ wx.ownsRow wo.heap.size TI 1 lv i ((l.take i).map (sel vs)) ∧ g = (l.take i).all (fun b => (ord bs b).isSome) ∧ Below wo.heap.size wo wx) (fun _ _ s _ _ => l.length - (intOf s).toNat)
      case atStart => exact ⟨0, true, rfl, rfl, Nat.zero_le _, World.ownsRow_nil _ _ _ _, rfl, Below.refl _ _⟩
      case round =>
        obtain ⟨i, gd, rfl, rfl, hil, hown, hgd, hbx⟩ := hrel
        have HO := Lib.hid hown
        have HG := Lib.hid hgd
        have HX := Lib.hid hbx
        have hcix := below_cell hbx hcib
        clear hown hgd hbx
        by_cases hit : i < l.length
        · obtain ⟨b2, off2, rfl, hcell2⟩ := HP2.out (by omega)
          have hcj := below_cell HX.out (below_cell HB.out (hcell2 i hit))
          have hbn := fitAt_at HFA.out hit
          obtain ⟨q, hq⟩ := Int.eq_ofNat_of_zero_le hbn.1
          rw [hq] at hcj hbn
          have HQ := Lib.hid hq
          have hqk : q < k := by omega
          obtain ⟨go, rfl, hgc⟩ := HT.out.cell hqk
          have hgx := below_cell HX.out hgc
          have hqz : (q : Int) < (k : Int) := by omega
          have hilz : (i : Int) < (l.length : Int) := by omega
          have hll := HLL.out
          have HE := Lib.hid (HT.out.ent q hqk).1
          have HTS := Lib.hid (show l.take (i + 1) = l.take i ++ [(q : Int)] from by rw [take_snocI hit, HQ.out])
          have hsz := HX.out.size
          clear hcell2 hq hgc hbn
          cases ho : ord bs (q : Int) with
          | none =>
            have hsel : sel vs (q : Int) = .slice none 0 0 := by have h := HE.out; rw [ho] at h; exact h
            rw [hsel] at hgx
            have HSE := Lib.hid hsel
            have HOE := Lib.hid ho
            clear hsel ho
            cases gd
            all_goals
              go_wp2_with (at_builtin; refine wpList_append_own _ rfl _ _ 22 rfl wo.heap.size 24 i1 (.slice none 0 0) 1 24 Try.underlying22 hj hy0 hy1 hy2 rfl (by decide) _ _ _ rfl (World.ownsRow.alloc HO.out _) ⟨wr.heap.size, 0, none⟩ 1 1 [.slice none 0 0] rfl rfl (one_newV _ _ _) (by simp [Value.oneCell']) (by unfold maxLen; omega) (by omega) (by simp; omega) ?_; intro v' w3 hown' hgrow' _; have HW3 := Lib.hid hown'; have HG3 := Lib.hid hgrow'; clear hown' hgrow')
              go_roundw
              case rel => exact ⟨i + 1, false, by go_num, rfl, by omega, by rw [HTS.out, List.map_append]; show World.ownsRow _ _ _ _ _ _ (_ ++ [sel vs (q : Int)]); rw [HSE.out]; exact HW3.out, by rw [HTS.out, List.all_append, ← HG.out]; simp [HOE.out], own_below HO.out HX.out HG3.out (Nat.le_refl _)⟩
              case measure => simp [intOf]; omega
          | some lo =>
            obtain ⟨b4, off4, n4, c4, hsel, _, _⟩ : ∃ b off n c, sel vs (q : Int) = .slice (some ⟨b, off, none⟩) n c ∧ Ri wo (sel vs (q : Int)) lo ∧ 0 < lo.length := by have h := HE.out; rw [ho] at h; exact h
            rw [hsel] at hgx
            have HSE := Lib.hid hsel
            have HOE := Lib.hid ho
            clear hsel ho
            cases gd
            all_goals
              go_wp2_with (at_builtin; refine wpList_append_own _ rfl _ _ 22 rfl wo.heap.size 24 i1 (.slice none 0 0) 1 24 Try.underlying22 hj hy0 hy1 hy2 rfl (by decide) _ _ _ rfl (World.ownsRow.alloc HO.out _) ⟨wr.heap.size, 0, none⟩ 1 1 [.slice (some ⟨b4, off4, none⟩) n4 c4] rfl rfl (one_newV _ _ _) (by simp [Value.oneCell']) (by unfold maxLen; omega) (by omega) (by simp; omega) ?_; intro v' w3 hown' hgrow' _; have HW3 := Lib.hid hown'; have HG3 := Lib.hid hgrow'; clear hown' hgrow')
              go_roundw
              case rel => exact ⟨i + 1, _, by go_num, rfl, by omega, by rw [HTS.out, List.map_append]; show World.ownsRow _ _ _ _ _ _ (_ ++ [sel vs (q : Int)]); rw [HSE.out]; exact HW3.out, by rw [HTS.out, List.all_append, ← HG.out]; simp [HOE.out], own_below HO.out HX.out HG3.out (Nat.le_refl _)⟩
              case measure => simp [intOf]; omega
        · obtain rfl : i = l.length := by omega
          have hilz : ¬ ((l.length : Nat) : Int) < (l.length : Int) := by omega
          have HTX := Lib.hid (HT.out.keep HX.out)
          have HBX := Lib.hid (HB.out.trans (HX.out.mono HB.out.size))
          have HGA := Lib.hid (show gd = l.all (fun b => (ord bs b).isSome) from by have h := HG.out; rwa [List.take_of_length_le (Nat.le_refl _)] at h)
          have HON := Lib.hid (show ord bs (k : Int) = nextO (ord bs) (k : Int) l from by
            have h := ord_next HF.out (c := (k : Int)) (by omega)
            rwa [Int.toNat_natCast, HL.out] at h)
          have hll := HLL.out
          clear HG
          cases gd
          · have HNO := Lib.hid (show ord bs (k : Int) = none from by
              have h := HGA.out.symm
              rw [Bool.eq_false_iff] at h
              have h2 : ∃ b ∈ l, ord bs b = none := by
                refine Classical.byContradiction fun hc => h (List.all_eq_true.2 fun b hb => ?_)
                cases e : ord bs b with
                | none => exact absurd ⟨b, hb, e⟩ hc
                | some x => rfl
              obtain ⟨b, hb, e⟩ := h2
              rw [HON.out]
              exact nextO_none hb e)
            go_wp2_with (at_builtin; refine wpList_append_own_at _ rfl _ _ 22 rfl w.heap.size 24 i1 (.slice none 0 0) 1 24 Try.underlying22 hj hy0 hy1 hy2 rfl (by decide) _ _ _ rfl (World.ownsRow.alloc HTX.out.own _) ⟨wr.heap.size, 0, none⟩ 1 1 [(.slice none 0 0)] rfl rfl (one_newV _ _ _) (by simp [Value.oneCell']) (by unfold maxLen; omega) (by omega) (by have := HBX.out.size; simp; omega) ?_; intro v' w9 hown' hgrow' _ hat'; have HW9 := Lib.hid hown'; have HG9 := Lib.hid hgrow'; have HA9 := Lib.hid hat'; clear hown' hgrow' hat')
            go_roundw
            case rel => exact ⟨k + 1, _, by go_num, by omega, HTX.out.snoc HW9.out ((Below.refl _ _).alloc (Nat.le_refl _) _) HG9.out HA9.out (by rw [HNO.out]; rfl) (fun b off s n c e => by simp at e), own_below HTX.out.own HBX.out HG9.out (Nat.le_refl _)⟩
            case measure => simp [intOf]; omega
          · go_wp2_with (at_builtin; refine wpList_append_own _ rfl _ _ 22 rfl wo.heap.size 24 i1 (.slice none 0 0) 1 24 Try.underlying22 hj hy0 hy1 hy2 rfl (by decide) _ _ _ rfl (World.ownsRow.alloc HO.out _) ⟨wr.heap.size, 0, none⟩ 1 1 [.slice p2 l.length c2] rfl rfl (one_newV _ _ _) (by simp [Value.oneCell']) (by unfold maxLen; omega) (by omega) (by have := HX.out.size; simp; omega) ?_; intro v' w3 hown' hgrow' _; have HW3 := Lib.hid hown'; have HG3 := Lib.hid hgrow'; clear hown' hgrow')
            obtain ⟨ls, hls⟩ : ∃ ls : List (List Int), l.map (ord bs) = ls.map some := all_some HGA.out.symm
            have HLS := Lib.hid hls
            have hlsl : ls.length = l.length := by have h := congrArg List.length hls; simpa using h.symm
            have HLSL := Lib.hid hlsl
            have HW4 := Lib.hid (show w3.ownsRow wo.heap.size TI 1 v' (l.map (sel vs) ++ [Value.slice p2 l.length c2]).length (l.map (sel vs) ++ [Value.slice p2 l.length c2]) from by
              have h := HW3.out
              rw [List.take_of_length_le (Nat.le_refl _)] at h
              rw [List.length_append, List.length_map, List.length_singleton]
              exact h)
            have HB3 := Lib.hid (show Below wo.heap.size wo w3 from own_below HO.out HX.out HG3.out (Nat.le_refl _))
            have HTW := Lib.hid (HT.out.keep HB3.out)
            have HLK := Lib.hid (show ∀ i, i < l.length → ∃ q : Nat, l.getD i 0 = (q : Int) ∧ q < k ∧ ord bs (q : Int) = some (ls.getD i []) from fun i hi => by
              have hb := fitAt_at HFA.out hi
              obtain ⟨q, hq⟩ := Int.eq_ofNat_of_zero_le hb.1
              refine ⟨q, hq, by omega, ?_⟩
              have h := congrArg (fun x => x[i]?) HLS.out
              simp only [List.getElem?_map] at h
              rw [List.getElem?_eq_getElem hi, List.getElem?_eq_getElem (by rw [HLSL.out]; exact hi)] at h
              simp only [Option.map_some, Option.some.injEq] at h
              rw [← hq]
              simp only [List.getD_eq_getElem?_getD, List.getElem?_eq_getElem hi, List.getElem?_eq_getElem (show i < ls.length by rw [HLSL.out]; exact hi), Option.getD_some]
              exact h)
            obtain ⟨gl, cl, hv', hcl, hgl, hrows⟩ := lists_rows (ls := ls ++ [l]) HW4.out (by simp [HLSL.out]) (by simp) (fun i hi => by
              by_cases hil : i < l.length
              · obtain ⟨q, hq, hqk, ho⟩ := HLK.out i hil
                have he := (HTW.out.ent q hqk).1
                have he0 := (HT.out.ent q hqk).1
                rw [ho] at he he0
                have hlt2 := Ent.lt he0
                obtain ⟨b4, off4, n4, c4, hs4, hr4, hl4⟩ := he
                refine ⟨sel vs (q : Int), ?_, ?_, fun b off s n c _ e => hlt2 b off s n c e⟩
                · rw [List.getElem?_append_left (by simpa using hil), List.getElem?_map, List.getElem?_eq_getElem hil, ← hq]
                  simp [List.getD_eq_getElem?_getD, hil]
                · have : (ls ++ [l]).getD i [] = ls.getD i [] := by
                    simp only [List.getD_eq_getElem?_getD]
                    rw [List.getElem?_append_left (by rw [HLSL.out]; exact hil)]
                  rw [this]; exact hr4
              · obtain rfl : i = l.length := by simp [HLSL.out] at hi; omega
                have e : (ls ++ [l]).getD l.length [] = l := by
                  simp only [List.getD_eq_getElem?_getD]
                  rw [List.getElem?_append_right (by rw [HLSL.out]; exact Nat.le_refl _), HLSL.out]
                  simp
                rw [e]
                refine ⟨.slice p2 l.length c2, by rw [List.getElem?_append_right (by simp)]; simp, HR.out.keep HB3.out, fun b off s n c hne e => ?_⟩
                exact (HR.out.nearOf (Nat.le_refl _) b off s n c hne e).1) HB3.out.size
            subst hv'
            have HRW := Lib.hid hrows
            have hlen1 : (ls ++ [l]).length ≤ 1000 := by simp; omega
            have HMG := Lib.hid (refmerge_any gl cl (ls ++ [l]) w3 hrows hcl hlen1
              (by
                have := total_bound (ls := ls ++ [l]) (k := 201) (fun x hx => by
                  rcases List.mem_append.1 hx with hx | hx
                  · obtain ⟨i, hi⟩ := List.getElem?_of_mem hx
                    have hil := (List.getElem?_eq_some_iff.1 hi).1
                    obtain ⟨q, _, hqk, ho⟩ := HLK.out i (by rw [← HLSL.out]; exact hil)
                    have := ord_len HF.out (by omega) ho
                    simp [List.getD_eq_getElem?_getD, hi] at this
                    omega
                  · simp at hx; subst hx; omega)
                have h2 : (ls ++ [l]).length ≤ 201 := by simp; omega
                have h3 := Nat.mul_le_mul_right 201 h2
                omega)
              (fun x hx y hy => by
                rcases List.mem_append.1 hx with hx | hx
                · obtain ⟨i, hi⟩ := List.getElem?_of_mem hx
                  have hil := (List.getElem?_eq_some_iff.1 hi).1
                  obtain ⟨q, _, hqk, ho⟩ := HLK.out i (by rw [← HLSL.out]; exact hil)
                  have hok := ord_ok HF.out _ _ _ (by omega) rfl ho
                  simp [List.getD_eq_getElem?_getD, hi] at hok
                  exact (hok.lo y hy).1
                · simp at hx; subst hx; exact (HFA.out.1 y hy).1))
            have HONE := Lib.hid (show ord bs (k : Int) = if allNil (mergeL (ls ++ [l])).2 then some ((k : Int) :: (mergeL (ls ++ [l])).1) else none from by rw [HON.out]; exact nextO_eq HLS.out)
            have HNL := Lib.hid (show (mergeL (ls ++ [l])).1.length ≤ 50000 from by
              have h1 := mergeL_len _ (ls ++ [l]) rfl
              have := total_bound (ls := ls ++ [l]) (k := 201) (fun x hx => by
                rcases List.mem_append.1 hx with hx | hx
                · obtain ⟨i, hi⟩ := List.getElem?_of_mem hx
                  have hil := (List.getElem?_eq_some_iff.1 hi).1
                  obtain ⟨q, _, hqk, ho⟩ := HLK.out i (by rw [← HLSL.out]; exact hil)
                  have := ord_len HF.out (by omega) ho
                  simp [List.getD_eq_getElem?_getD, hi] at this
                  omega
                · simp at hx; subst hx; omega)
              have h2 : (ls ++ [l]).length ≤ 201 := by simp; omega
              have h3 := Nat.mul_le_mul_right 201 h2
              omega)
            generalize (ls ++ [l]) = ml at HMG HRW HONE HNL
            have HGL := Lib.hid hgl
            clear hls hlsl hrows hgl HW3 HW4 HG3 HTX HBX HO hlen1 hcl
            refine HMG.out.mono ?_
            rintro e w4 ⟨uo, rfl, hm1, hm2, hm3⟩
            have HM1 := Lib.hid hm1
            have HM2 := Lib.hid hm2
            have HB4 := Lib.hid (show Below wo.heap.size wo w4 from HB3.out.trans (hm3.below HGL.out HB3.out.size))
            have HTX := Lib.hid (HT.out.keep HB4.out)
            have HBX := Lib.hid (HB.out.trans (HB4.out.mono HB.out.size))
            have HZ4 := Lib.hid hm3.size
            clear hm1 hm2 hm3
            cases hok : allNil (mergeL ml).2 with
            | false =>
              have HNO := Lib.hid (show ord bs (k : Int) = none from by rw [HONE.out, hok]; rfl)
              obtain rfl := HM2.out hok
              clear hok
              go_wp2_with (at_builtin; refine wpList_append_own_at _ rfl _ _ 22 rfl w.heap.size 24 i1 (.slice none 0 0) 1 24 Try.underlying22 hj hy0 hy1 hy2 rfl (by decide) _ _ _ rfl (World.ownsRow.alloc HTX.out.own _) ⟨w4.heap.size, 0, none⟩ 1 1 [(.slice none 0 0)] rfl rfl (one_newV _ _ _) (by simp [Value.oneCell']) (by unfold maxLen; omega) (by omega) (by have := HBX.out.size; simp; omega) ?_; intro v' w9 hown' hgrow' _ hat'; have HW9 := Lib.hid hown'; have HG9 := Lib.hid hgrow'; have HA9 := Lib.hid hat'; clear hown' hgrow' hat')
              go_roundw
              case rel => exact ⟨k + 1, _, by go_num, by omega, HTX.out.snoc HW9.out ((Below.refl _ _).alloc (Nat.le_refl _) _) HG9.out HA9.out (by rw [HNO.out]; rfl) (fun b off s n c e => by simp at e), own_below HTX.out.own HBX.out HG9.out (Nat.le_refl _)⟩
              case measure => simp [intOf]; omega
            | true =>
              have HYES := Lib.hid (show ord bs (k : Int) = some ((k : Int) :: (mergeL ml).1) from by rw [HONE.out, hok]; rfl)
              have HOM := Lib.hid (HM1.out hok).mine
              clear hok
              have hnl := HNL.out
              generalize (mergeL ml).1 = mo at HYES HOM hnl
              have HLT := Lib.hid (World.ownsRow.lt HTX.out.own)
              obtain hM := HOM.out
              rcases hM with ⟨rfl, rfl⟩ | ⟨g5, c5, cur5, rfl, m1, m2, m3, m4, m5⟩
              · go_wp2_with (first
                  | (at_builtin; refine wpList_append_own_none rfl (.tmp 59) (.tmp 60) 24 rfl w4.heap.size 3 i0 1 Try.underlying24 hi _ _ _ rfl (own_oneI w4 (k : Int)) rfl ?_; generalize hw5 : World.alloc w4 _ = w5; have hb5 : Below w4.heap.size w4 w5 := (by rw [← hw5]; exact (Below.refl _ _).alloc (Nat.le_refl _) _); have HE5 := Lib.hid (show Mine .i64 3 w5 w4.heap.size (.slice (some ⟨w4.heap.size, 0, none⟩) 1 1) [(k : Int)] from by rw [← hw5]; exact LR.mine (k := .i64) (ws := [(k : Int)]) (heap_alloc_new w4 _) (Nat.le_refl _)); have HT5 := Lib.hid (HTX.out.keep hb5); have HX5 := Lib.hid (HBX.out.trans (hb5.mono HBX.out.size)); clear hw5 hb5)
                  | (at_builtin; refine wpList_append_own_at _ rfl (.tmp 57) (.tmp 62) 22 rfl w.heap.size 24 i1 (.slice none 0 0) 1 24 Try.underlying22 hj hy0 hy1 hy2 rfl (by decide) _ _ _ rfl (World.ownsRow.alloc HT5.out.own _) ⟨w5.heap.size, 0, none⟩ 1 1 [.slice (some ⟨w4.heap.size, 0, none⟩) 1 1] rfl rfl (one_newV _ _ _) (by simp [Value.oneCell']) (by unfold maxLen; omega) (by omega) (by have := HX5.out.size; simp; omega) ?_; intro v' w9 hown' hgrow' _ hat'; have HW9 := Lib.hid hown'; have HG9 := Lib.hid hgrow'; have HA9 := Lib.hid hat'; clear hown' hgrow' hat'))
                go_roundw
                case rel => exact ⟨k + 1, _, by go_num, by omega, HT5.out.snoc HW9.out ((Below.refl _ _).alloc (Nat.le_refl _) _) HG9.out HA9.out (by rw [HYES.out]; exact ⟨w4.heap.size, 0, 1, 1, rfl, (HE5.out.ri (by simp)).keep ((Below.refl _ _).alloc (Nat.le_refl _) _), by simp⟩) (fun b off s n c e => by simp only [Value.slice.injEq, Option.some.injEq, Addr.mk.injEq] at e; intro h; have := HLT.out _ h.symm; omega), own_below HT5.out.own HX5.out HG9.out (Nat.le_refl _)⟩
                case measure => simp [intOf]; omega
              · have hgl5 : g5 < w4.heap.size := (Array.getElem?_eq_some_iff.1 m4).1
                have HN5 := Lib.hid (show ∀ j u, (mo.map (Value.int .i64))[j]? = some u → (w4.alloc (.cells #[.int .i64 (k : Int)] 3)).cell? ((⟨g5, 0, none⟩ : Addr).add j) = some u from by
                  intro j u hj
                  rw [List.getElem?_map] at hj
                  cases hr : mo[j]? with
                  | none => rw [hr] at hj; cases hj
                  | some y =>
                    rw [hr] at hj
                    have hjl : j < mo.length := (List.getElem?_eq_some_iff.1 hr).1
                    have h5 := m5 j hjl
                    rw [List.getD_eq_getElem?_getD, hr] at h5
                    simp only [Option.map_some, Option.some.injEq] at hj
                    refine alloc_cell ?_ _
                    rw [← hj, addZ]
                    simpa [World.cell?, m4] using h5)
                clear m4 m5
                go_wp2_with (first
                  | (at_builtin; refine wpList_append_own _ rfl (.tmp 59) (.tmp 60) 24 rfl w4.heap.size 3 i0 (.int .i64 0) 1 8 Try.underlying24 hi hz0 hz1 hz2 rfl (by decide) _ _ _ rfl (own_oneI w4 (k : Int)) ⟨g5, 0, none⟩ mo.length c5 (mo.map (Value.int .i64)) rfl (by simp) HN5.out (by simp [Value.oneCell']) (by unfold maxLen; omega) (by omega) (by simp) ?_; intro v5 w5 hown5 hgrow5 _; have hb5 : Below w4.heap.size w4 w5 := own_grown hgrow5; obtain ⟨g6, c6, hg6, rfl, HE5⟩ := ownI_mine hown5; have HT5 := Lib.hid (HTX.out.keep hb5); have HX5 := Lib.hid (HBX.out.trans (hb5.mono HBX.out.size)); clear hb5 hown5 hgrow5)
                  | (at_builtin; refine wpList_append_own_at _ rfl (.tmp 57) (.tmp 62) 22 rfl w.heap.size 24 i1 (.slice none 0 0) 1 24 Try.underlying22 hj hy0 hy1 hy2 rfl (by decide) _ _ _ rfl (World.ownsRow.alloc HT5.out.own _) ⟨w5.heap.size, 0, none⟩ 1 1 [.slice (some ⟨g6, 0, none⟩) (1 + mo.length) c6] rfl rfl (one_newV _ _ _) (by simp [Value.oneCell']) (by unfold maxLen; omega) (by omega) (by have := HX5.out.size; simp; omega) ?_; intro v' w9 hown' hgrow' _ hat'; have HW9 := Lib.hid hown'; have HG9 := Lib.hid hgrow'; have HA9 := Lib.hid hat'; clear hown' hgrow' hat'))
                go_roundw
                case rel => exact ⟨k + 1, _, by go_num, by omega, HT5.out.snoc HW9.out ((Below.refl _ _).alloc (Nat.le_refl _) _) HG9.out HA9.out (by rw [HYES.out]; exact ⟨g6, 0, _, c6, rfl, (HE5.out.ri (by simp; omega)).keep ((Below.refl _ _).alloc (Nat.le_refl _) _), by simp⟩) (fun b off s n c e => by simp only [Value.slice.injEq, Option.some.injEq, Addr.mk.injEq] at e; intro h; have := HLT.out _ h.symm; omega), own_below HT5.out.own HX5.out HG9.out (Nat.le_refl _)⟩
                case measure => simp [intOf]; omega
    · have hlz : ¬ (k : Int) < (bs.length : Int) := by omega
      obtain rfl : k = bs.length := by omega
      go_wp2
      go_ret
      exact ⟨_, vs, rfl, HT.out, HB.out⟩
end Go.Proofs.Ytfddcmapjnkhhaa
