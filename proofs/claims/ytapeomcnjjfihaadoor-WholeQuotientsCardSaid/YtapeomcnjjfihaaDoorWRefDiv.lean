/- Layer 2: the document's quotient and rest of sizes (screeref02.shares): digit by digit. Layer 2, the document's answer: DivMod. -/
import Derived.Test.YtapeomcnjjfihaaDoorWRefPlus
import Derived.Test.YtapeomcnjjfihaaDoorWRefMinus
import Derived.Test.YtapeomcnjjfihaaDoorWRefSizes
import Derived.Laws.AppendOwnNone
import Derived.Deep.LoopGhost
import Derived.Test.YtapeomcnjjfihaaDoorWDivMod
import Derived.Test.YtapeomcnjjfihaaDoorWBig
namespace Go.Proofs.YtapeomcnjjfihaaDoor
section
open Go.ChangeShapes Go.WideShapes Go.ChangeAt Go.RowKit
set_option linter.unusedVariables false
set_option linter.unusedSimpArgs false
structure ShareState (xs ys qs rs : List Int) (p : Nat) : Prop where
  ql : qs.length = xs.length
  qd : Dig 10 qs
  qz : ∀ j, j < p → qs.getD j 0 = 0
  rc : Canon 10 rs
  eq : val 10 (xs.drop p) = val 10 (qs.drop p) * val 10 ys + val 10 rs
  lt : val 10 rs < val 10 ys
theorem ShareState.start {xs ys : List Int} (h : 0 < val 10 ys) : ShareState xs ys (List.replicate xs.length 0) [] xs.length := by
  refine ⟨by simp, fun i => ?_, fun j hj => ?_, Canon.nil (by decide), by simp [val], by simpa [val] using h⟩
  · rw [List.getD_eq_getElem?_getD, List.getElem?_replicate]; split <;> simp
  · rw [List.getD_eq_getElem?_getD, List.getElem?_replicate]; split <;> simp
theorem drop_at10 {b : Int} {ws : List Int} {k : Nat} (hk : k < ws.length) : val b (ws.drop k) = ws.getD k 0 + b * val b (ws.drop (k + 1)) := by
  rw [List.drop_eq_getElem_cons hk, List.getD_eq_getElem?_getD, List.getElem?_eq_getElem hk]
  rfl
theorem ShareState.step {xs ys qs rs rs2 : List Int} {p : Nat} {g : Int} (h : ShareState xs ys qs rs (p + 1)) (hp : p < xs.length) (hc : Canon 10 rs2) (hg : 0 ≤ g ∧ g ≤ 9)
    (he : xs.getD p 0 + 10 * val 10 rs = g * val 10 ys + val 10 rs2) (hl : val 10 rs2 < val 10 ys) : ShareState xs ys (qs.set p g) rs2 p := by
  have hql := h.ql
  refine ⟨by rw [List.length_set]; exact hql, h.qd.set p g (by omega), fun j hj => ?_, hc, ?_, hl⟩
  · rw [getD_set' _ _ _ _ (by omega), if_neg (by omega)]; exact h.qz j (by omega)
  · rw [drop_at10 hp, drop_at10 (ws := qs.set p g) (by rw [List.length_set]; omega), h.eq, getD_set' _ _ _ _ (by omega), if_pos rfl, List.drop_set_of_lt (by omega)]
    have e : 10 * (val 10 (qs.drop (p + 1)) * val 10 ys + val 10 rs) = 10 * val 10 (qs.drop (p + 1)) * val 10 ys + 10 * val 10 rs := by rw [Int.mul_add, Int.mul_assoc]
    rw [e, Int.add_mul]
    omega
/-- One more time the divisor. -/
theorem pick_up {R0 V g r : Int} (h0 : R0 < 10 * V) (he : R0 = g * V + r) (hr : V ≤ r) (hg : 0 ≤ g) (hV : 0 < V) : g + 1 ≤ 9 ∧ R0 = (g + 1) * V + (r - V) := by
  rw [Int.add_mul, Int.one_mul]
  refine ⟨?_, by omega⟩
  by_cases h : g + 1 ≤ 9
  · exact h
  · have := Int.mul_le_mul_of_nonneg_right (show 9 ≤ g by omega) (show 0 ≤ V by omega)
    omega
theorem add0 (g j : Nat) : (⟨g, 0, none⟩ : Addr).add j = ⟨g, j, none⟩ := by cases j <;> simp [Addr.add]
theorem Mine.setLow {k : IntKind} {T : TypeId} {w : World} {B0 B i : Nat} {u : Value} {ws : List Int} (h : Mine k T w B0 u ws) (hB : B < B0) (x : Value) : Mine k T (w.setCell ⟨B, i, Option.none⟩ x) B0 u ws := by
  rcases h with h | ⟨g, c, cur, h0, h1, h2, h3, h4, h5⟩
  · exact .inl h
  · refine .inr ⟨g, c, cur, h0, h1, h2, h3, ?_, h5⟩
    rw [Below.heap_setCell _ _ _ _ (by simp; omega)]
    exact h4
theorem mine_form {k : IntKind} {T : TypeId} {w : World} {B : Nat} {u : Value} {ws : List Int} (h : Mine k T w B u ws) : ∃ p c, u = .slice p ws.length c := by
  rcases h with ⟨rfl, rfl⟩ | ⟨g, c, cur, rfl, _⟩
  · exact ⟨none, 0, rfl⟩
  · exact ⟨_, c, rfl⟩
theorem own_one (w : World) (x : Int) : (w.alloc (.cells #[.int .u8 x] U8)).ownsRow w.heap.size U8 1 (.slice (some ⟨w.heap.size, 0, none⟩) 1 1) 1 [.int .u8 x] :=
  ⟨rfl, .inr ⟨w.heap.size, 1, #[.int .u8 x], rfl, Nat.le_refl _, heap_alloc_new w _, Nat.le_refl _, by unfold maxLen; omega, rfl, rfl⟩⟩
def SharesPost (W : World) (xs ys : List Int) (e : Ending) (w' : World) : Prop :=
  ∃ pq kq cq qs pr kr cr rs, e = .returned (.tuple #[.slice pq kq cq, .slice pr kr cr]) ∧ Mine .u8 U8 w' W.heap.size (.slice pq kq cq) qs ∧ Mine .u8 U8 w' W.heap.size (.slice pr kr cr) rs ∧ Canon 10 qs ∧ Canon 10 rs ∧
    qs.length ≤ xs.length ∧ rs.length ≤ ys.length ∧ val 10 xs = val 10 qs * val 10 ys + val 10 rs ∧ val 10 rs < val 10 ys ∧ Below W.heap.size W w'
set_option maxRecDepth 100000 in
set_option maxHeartbeats 4000000 in
theorem shares_any (u1 u2 : Value) (xs ys : List Int) (w : World) (h1 : Rb w u1 xs) (h2 : Rb w u2 ys) (hx : Dig 10 xs) (hy : Canon 10 ys) (hpos : 0 < val 10 ys) (hlx : xs.length ≤ 100000) (hly : ys.length ≤ 50000) :
    Calls Tryd.prog 68 #[u1, u2] w (SharesPost w xs ys) := by
  obtain ⟨i0, hi, hz0, hz1, hz2⟩ := info_parts infoU8
  have HR1 := Lib.hid h1
  have HR2 := Lib.hid h2
  obtain ⟨p1, c1, rfl, hc1, hm1, hp1⟩ := rb_form h1
  obtain ⟨p2, c2, rfl, hc2, hm2, hp2⟩ := rb_form h2
  have HP1 := Lib.hid hp1
  have HX := Lib.hid hx
  have HY := Lib.hid hy
  have HV := Lib.hid hpos
  clear h1 h2 hp1 hp2 hx hy hpos
  have hmk := run_make_row' (P := Tryd.prog) 30 5 (.int .u8 0) 1 Tryd.underlying30 infoU8 rfl .i64 .i64 xs.length (by omega) (by omega)
  have HGG := Lib.hid (show LR .u8 U8 (w.alloc (.cells (madeCells #[Value.int .u8 0] xs.length) 5)) w.heap.size (List.replicate xs.length 0) from LR.made (k := .u8) (T := 5) w xs.length)
  have HBB := Lib.hid (show Below w.heap.size w (w.alloc (.cells (madeCells #[Value.int .u8 0] xs.length) 5)) from (Below.refl _ _).alloc (Nat.le_refl _) _)
  go_enter Tryd.func68, Tryd.ntmps68
  go_wp2_with fail
  generalize hw1 : World.alloc w _ = w1 at HGG HBB
  clear hw1 hmk
  go_loopw [7, 8] (fun rv s wr => ∃ (p : Nat) (qs rs : List Int), s = .int .i64 ((p : Int) - 1) ∧ p ≤ xs.length ∧ ShareState xs ys qs rs p ∧ LR .u8 U8 wr w.heap.size qs ∧ Mine .u8 U8 wr (w.heap.size + 1) rv rs ∧ Below w.heap.size w wr) (fun _ s _ => (intOf s + 1).toNat)
  case atStart => exact ⟨xs.length, _, [], rfl, Nat.le_refl _, ShareState.start HV.out, HGG.out, Mine.nil _ _, HBB.out⟩
  case round =>
    obtain ⟨p', qs, rs, rfl, hp, hS, hL, hM, hB⟩ := hrel
    have HS := Lib.hid hS
    have HL := Lib.hid hL
    have HB := Lib.hid hB
    have hql := hS.ql
    have HQL := Lib.hid hql
    by_cases hp0 : 0 < p'
    · obtain ⟨p, rfl⟩ : ∃ p, p' = p + 1 := ⟨p' - 1, by omega⟩
      have hpe : ((p + 1 : Nat) : Int) - 1 = (p : Int) := by omega
      rw [hpe]
      obtain ⟨b, off, rfl, hcell⟩ := HP1.out (by omega)
      have hcx := below_cell HB.out (hcell p (by omega))
      have hdx := HX.out p
      have hpz : (p : Int) < (xs.length : Int) := by omega
      have hgz := HL.out.lt
      have HRL := Lib.hid (show rs.length ≤ ys.length from by
        have := hS.lt
        exact (canon_len (by decide) hS.rc _).2 (Int.lt_trans this (val_lt (by decide) HY.out.1)))
      obtain ⟨x, hxe⟩ : ∃ x, xs.getD p 0 = x := ⟨_, rfl⟩
      rw [hxe] at hcx hdx
      have HXE := Lib.hid hxe
      clear hcell hS hL hB hql hxe hpe
      have HXL := Lib.hid (show Dig 10 (x :: rs) from Dig.cons (by rw [← HXE.out]; exact HX.out p) HS.out.rc.1)
      rcases hM with ⟨rfl, rfl⟩ | ⟨g, c, cur, rfl, m1, m2, m3, m4, m5⟩
      · go_wp2_with (first | (at_builtin; refine wpList_append_own_none rfl _ _ 30 rfl wr.heap.size 5 i0 1 Tryd.underlying30 hi _ _ _ rfl (own_one wr x) rfl ?_))
        generalize hw2 : World.alloc wr _ = w2
        have hb2 : Below wr.heap.size wr w2 := by rw [← hw2]; exact (Below.refl _ _).alloc (Nat.le_refl _) _
        have HM2 := Lib.hid (show Mine .u8 U8 w2 (w.heap.size + 1) (.slice (some ⟨wr.heap.size, 0, none⟩) 1 1) [x] from by rw [← hw2]; exact LR.mine (k := .u8) (ws := [x]) (heap_alloc_new wr _) (by omega))
        have HL2 := Lib.hid (HL.out.keep hb2)
        have HB2 := Lib.hid (HB.out.trans (hb2.mono HB.out.size))
        clear hw2 hb2
        refine (cut_any (some ⟨wr.heap.size, 0, none⟩) 1 [x] w2 (HM2.out.rb (by simp))).mono ?_
        rintro e w3 ⟨k, hk, rfl, rfl⟩
        have HR := Lib.hid (hk.canon (b := 10) (by decide) HXL.out)
        have HM3 := Lib.hid (show Mine .u8 U8 w2 (w.heap.size + 1) (.slice (some ⟨wr.heap.size, 0, none⟩) k 1) ([x].take k) from HM2.out.cut hk.1)
        have HE := Lib.hid (show x + 10 * val 10 ([] : List Int) = val 10 ([x].take k) from by rw [HR.out.2.1]; simp [val])
        have HC := Lib.hid HR.out.1
        clear hk HR HM2 HXL
        generalize [x].take k = r0 at HM3 HE HC
        go_wp2_with fail
        have hVp := HV.out
        have hr0 : val 10 r0 < 10 * val 10 ys := by rw [← HE.out]; have := HS.out.lt; omega
        have HR0 := Lib.hid hr0
        have hqlen := HQL.out
        go_loopg [7] 9 (fun gk rv wx => ∃ (g : Int) (rs2 : List Int), (gk : Int) + g = 9 ∧ 0 ≤ g ∧ val 10 r0 = g * val 10 ys + val 10 rs2 ∧ Canon 10 rs2 ∧ Mine .u8 U8 wx (w.heap.size + 1) rv rs2 ∧ LR .u8 U8 wx w.heap.size (qs.set p g) ∧ Below w.heap.size w wx)
        case atStart =>
          refine ⟨0, r0, by omega, by omega, by omega, HC.out, HM3.out, ?_, HB2.out⟩
          have h0 := HS.out.qz p (by omega)
          rw [show qs.set p 0 = qs from by
            refine list_ext_all (by simp) fun i => ?_
            rw [getD_set' _ _ _ _ (by omega)]
            split
            · subst_vars; exact h0.symm
            · rfl]
          exact HL2.out
        case round =>
          obtain ⟨g, rs2, hgk, hg0, he2, hc2', hM, hL, hB⟩ := hrel
          obtain ⟨pr, cr, rfl⟩ := mine_form hM
          have HE2 := Lib.hid he2
          have HC2 := Lib.hid hc2'
          have HL3 := Lib.hid hL
          have HB3 := Lib.hid hB
          have HM4 := Lib.hid hM
          have hrl2 : rs2.length ≤ ys.length + 1 := by
            refine (canon_len (by decide) hc2' _).2 ?_
            have h1 := val_lt (by decide : (0 : Int) < 10) HY.out.1
            have h2 : 0 ≤ g * val 10 ys := Int.mul_nonneg hg0 (by omega)
            rw [Int.pow_succ]; omega
          have HRB := Lib.hid (show Rb wr (.slice pr rs2.length cr) rs2 from HM4.out.rb (by omega))
          have HSZ := Lib.hid (sizes_any _ _ rs2 ys wr HRB.out (HR2.out.keep HB3.out) hc2' HY.out)
          clear hVp hr0 hqlen he2 hc2' hL hB hM
          by_cases hlt : val 10 rs2 < val 10 ys
          · have HLT := Lib.hid hlt
            rw [cmpI_lt hlt] at HSZ
            clear hlt
            go_wp2_with fail
            refine HSZ.out.mono ?_
            rintro e w4 ⟨rfl, hb4⟩
            have HL4 := Lib.hid (HL3.out.keep hb4)
            have HM5 := Lib.hid (HM4.out.keep hb4)
            have HB4 := Lib.hid (HB3.out.trans (hb4.mono HB3.out.size))
            have HS5 := Lib.hid (HS.out.step (g := g) (rs2 := rs2) (by omega) HC2.out ⟨hg0, by omega⟩ (by rw [HXE.out, HE.out]; exact HE2.out) HLT.out)
            clear hb4
            go_wp2_with fail
            go_roundw
            case rel => exact ⟨p, _, rs2, rfl, by omega, HS5.out, HL4.out, HM5.out, HB4.out⟩
            case measure => simp [intOf]
          · have HGE := Lib.hid hlt
            obtain ⟨cc, hcc⟩ : ∃ cc, cmpI (val 10 rs2) (val 10 ys) = cc := ⟨_, rfl⟩
            have hc0 : 0 ≤ cc := by rw [← hcc]; unfold cmpI; (repeat' split) <;> omega
            rw [hcc] at HSZ
            have HLE := Lib.hid (show ys.length ≤ rs2.length from by
              refine Classical.byContradiction fun hc => ?_
              have := len_lt (b := 10) (by decide) HC2.out HY.out (by omega)
              omega)
            have HPU := Lib.hid (pick_up HR0.out HE2.out (by omega) hg0 HV.out)
            clear hlt hcc
            go_wp2_with fail
            refine HSZ.out.mono ?_
            rintro e w4 ⟨rfl, hb4⟩
            have HL4 := Lib.hid (HL3.out.keep hb4)
            have HMN := Lib.hid (minus_any _ _ rs2 ys w4 (HRB.out.keep hb4) ((HR2.out.keep HB3.out).keep hb4) HC2.out.1 HY.out.1 (by omega) HLE.out (by have := HGE.out; omega))
            have HB4 := Lib.hid (HB3.out.trans (hb4.mono HB3.out.size))
            clear hb4
            go_wp2_with fail
            refine HMN.out.mono ?_
            rintro e w5 ⟨u5, ds5, rfl, hm5, hl5, hc5, hv5, hb5⟩
            have HL5 := Lib.hid (HL4.out.keep hb5)
            have hgz5 := HL4.out.lt
            have HM6 := Lib.hid (hm5.low (show w.heap.size + 1 ≤ w4.heap.size by omega))
            have HC5 := Lib.hid hc5
            have HV5 := Lib.hid hv5
            have HB5 := Lib.hid (HB4.out.trans (hb5.mono HB4.out.size))
            have hqc := HL5.out.cell (i := p) (by rw [List.length_set]; have := HQL.out; omega)
            rw [getD_set' _ _ _ _ (by have := HQL.out; omega), if_pos rfl] at hqc
            have hqf := HL5.out.frozen p
            have hg9 : g + 1 ≤ 9 := HPU.out.1
            clear hm5 hl5 hc5 hv5 hb5
            go_wp2_with fail
            go_roundg (gk - 1)
            case measure => omega
            case rel => exact ⟨g + 1, ds5, by omega, by omega, by rw [HV5.out]; exact HPU.out.2, HC5.out, HM6.out.setLow (by omega) _, by have h := HL5.out.set p (g + 1); rwa [List.set_set] at h, HB5.out.setCell (Nat.le_refl _) _⟩
      · have hgl : g < wr.heap.size := (Array.getElem?_eq_some_iff.1 m4).1
        have HN := Lib.hid (show ∀ j u, (rs.map (Value.int .u8))[j]? = some u → (wr.alloc (.cells #[.int .u8 x] U8)).cell? ((⟨g, 0, none⟩ : Addr).add j) = some u from by
          intro j u hj
          rw [List.getElem?_map] at hj
          cases hr : rs[j]? with
          | none => rw [hr] at hj; cases hj
          | some y =>
            rw [hr] at hj
            have hjl : j < rs.length := (List.getElem?_eq_some_iff.1 hr).1
            have h5 := m5 j hjl
            rw [List.getD_eq_getElem?_getD, hr] at h5
            simp only [Option.map_some, Option.some.injEq] at hj
            refine alloc_cell ?_ _
            rw [← hj, add0]
            simpa [World.cell?, m4] using h5)
        clear m4 m5
        have hrl := HRL.out
        go_wp2_with (first | (at_builtin; refine wpList_append_own _ rfl _ _ 30 rfl wr.heap.size 5 i0 (.int .u8 0) 1 1 Tryd.underlying30 hi hz0 hz1 hz2 rfl (by decide) _ _ _ rfl (own_one wr x) ⟨g, 0, none⟩ rs.length c (rs.map (Value.int .u8)) rfl (by simp) HN.out (by simp [Value.oneCell']) (by unfold maxLen; omega) (by omega) (by simp) ?_; intro v' w2 hown hgrow _))
        obtain ⟨g2, cp, rfl, hM2⟩ : ∃ g2 cp, v' = .slice (some ⟨g2, 0, none⟩) (x :: rs).length cp ∧ Mine .u8 U8 w2 wr.heap.size v' (x :: rs) := by
          have hO : OW .u8 U8 w2 wr.heap.size v' (x :: rs) := by
            unfold OW
            rw [List.length_cons, Nat.add_comm rs.length 1]
            exact hown
          have hM := hO.mine
          rcases hM with ⟨_, h⟩ | ⟨g3, c3, cur3, e3, r⟩
          · cases h
          · exact ⟨g3, c3, e3, .inr ⟨g3, c3, cur3, e3, r⟩⟩
        have hb2 : Below wr.heap.size wr w2 := ((Below.refl _ _).alloc (Nat.le_refl _) _).grown hgrow (by simp) (fun q hq => Nat.le_of_eq (Option.some.inj (show some wr.heap.size = some q from hq)))
        have HM2 := Lib.hid (hM2.low (show w.heap.size + 1 ≤ wr.heap.size by omega))
        have HL2 := Lib.hid (HL.out.keep hb2)
        have HB2 := Lib.hid (HB.out.trans (hb2.mono HB.out.size))
        clear hb2 hown hgrow hM2 HN
        go_wp2_with fail
        refine (cut_any (some ⟨g2, 0, none⟩) cp (x :: rs) w2 (HM2.out.rb (by simp; omega))).mono ?_
        rintro e w3 ⟨k, hk, rfl, rfl⟩
        have HR := Lib.hid (hk.canon (b := 10) (by decide) HXL.out)
        have HM3 := Lib.hid (show Mine .u8 U8 w2 (w.heap.size + 1) (.slice (some ⟨g2, 0, none⟩) k cp) ((x :: rs).take k) from HM2.out.cut hk.1)
        have HE := Lib.hid (show x + 10 * val 10 rs = val 10 ((x :: rs).take k) from by rw [HR.out.2.1]; simp [val])
        have HC := Lib.hid HR.out.1
        clear hk HR HM2 HXL
        generalize (x :: rs).take k = r0 at HM3 HE HC
        go_wp2_with fail
        have hVp := HV.out
        have hr0 : val 10 r0 < 10 * val 10 ys := by rw [← HE.out]; have := HS.out.lt; omega
        have HR0 := Lib.hid hr0
        have hqlen := HQL.out
        go_loopg [7] 9 (fun gk rv wx => ∃ (g : Int) (rs2 : List Int), (gk : Int) + g = 9 ∧ 0 ≤ g ∧ val 10 r0 = g * val 10 ys + val 10 rs2 ∧ Canon 10 rs2 ∧ Mine .u8 U8 wx (w.heap.size + 1) rv rs2 ∧ LR .u8 U8 wx w.heap.size (qs.set p g) ∧ Below w.heap.size w wx)
        case atStart =>
          refine ⟨0, r0, by omega, by omega, by omega, HC.out, HM3.out, ?_, HB2.out⟩
          have h0 := HS.out.qz p (by omega)
          rw [show qs.set p 0 = qs from by
            refine list_ext_all (by simp) fun i => ?_
            rw [getD_set' _ _ _ _ (by omega)]
            split
            · subst_vars; exact h0.symm
            · rfl]
          exact HL2.out
        case round =>
          obtain ⟨g, rs2, hgk, hg0, he2, hc2', hM, hL, hB⟩ := hrel
          obtain ⟨pr, cr, rfl⟩ := mine_form hM
          have HE2 := Lib.hid he2
          have HC2 := Lib.hid hc2'
          have HL3 := Lib.hid hL
          have HB3 := Lib.hid hB
          have HM4 := Lib.hid hM
          have hrl2 : rs2.length ≤ ys.length + 1 := by
            refine (canon_len (by decide) hc2' _).2 ?_
            have h1 := val_lt (by decide : (0 : Int) < 10) HY.out.1
            have h2 : 0 ≤ g * val 10 ys := Int.mul_nonneg hg0 (by omega)
            rw [Int.pow_succ]; omega
          have HRB := Lib.hid (show Rb wr (.slice pr rs2.length cr) rs2 from HM4.out.rb (by omega))
          have HSZ := Lib.hid (sizes_any _ _ rs2 ys wr HRB.out (HR2.out.keep HB3.out) hc2' HY.out)
          clear hVp hr0 hqlen he2 hc2' hL hB hM
          by_cases hlt : val 10 rs2 < val 10 ys
          · have HLT := Lib.hid hlt
            rw [cmpI_lt hlt] at HSZ
            clear hlt
            go_wp2_with fail
            refine HSZ.out.mono ?_
            rintro e w4 ⟨rfl, hb4⟩
            have HL4 := Lib.hid (HL3.out.keep hb4)
            have HM5 := Lib.hid (HM4.out.keep hb4)
            have HB4 := Lib.hid (HB3.out.trans (hb4.mono HB3.out.size))
            have HS5 := Lib.hid (HS.out.step (g := g) (rs2 := rs2) (by omega) HC2.out ⟨hg0, by omega⟩ (by rw [HXE.out, HE.out]; exact HE2.out) HLT.out)
            clear hb4
            go_wp2_with fail
            go_roundw
            case rel => exact ⟨p, _, rs2, rfl, by omega, HS5.out, HL4.out, HM5.out, HB4.out⟩
            case measure => simp [intOf]
          · have HGE := Lib.hid hlt
            obtain ⟨cc, hcc⟩ : ∃ cc, cmpI (val 10 rs2) (val 10 ys) = cc := ⟨_, rfl⟩
            have hc0 : 0 ≤ cc := by rw [← hcc]; unfold cmpI; (repeat' split) <;> omega
            rw [hcc] at HSZ
            have HLE := Lib.hid (show ys.length ≤ rs2.length from by
              refine Classical.byContradiction fun hc => ?_
              have := len_lt (b := 10) (by decide) HC2.out HY.out (by omega)
              omega)
            have HPU := Lib.hid (pick_up HR0.out HE2.out (by omega) hg0 HV.out)
            clear hlt hcc
            go_wp2_with fail
            refine HSZ.out.mono ?_
            rintro e w4 ⟨rfl, hb4⟩
            have HL4 := Lib.hid (HL3.out.keep hb4)
            have HMN := Lib.hid (minus_any _ _ rs2 ys w4 (HRB.out.keep hb4) ((HR2.out.keep HB3.out).keep hb4) HC2.out.1 HY.out.1 (by omega) HLE.out (by have := HGE.out; omega))
            have HB4 := Lib.hid (HB3.out.trans (hb4.mono HB3.out.size))
            clear hb4
            go_wp2_with fail
            refine HMN.out.mono ?_
            rintro e w5 ⟨u5, ds5, rfl, hm5, hl5, hc5, hv5, hb5⟩
            have HL5 := Lib.hid (HL4.out.keep hb5)
            have hgz5 := HL4.out.lt
            have HM6 := Lib.hid (hm5.low (show w.heap.size + 1 ≤ w4.heap.size by omega))
            have HC5 := Lib.hid hc5
            have HV5 := Lib.hid hv5
            have HB5 := Lib.hid (HB4.out.trans (hb5.mono HB4.out.size))
            have hqc := HL5.out.cell (i := p) (by rw [List.length_set]; have := HQL.out; omega)
            rw [getD_set' _ _ _ _ (by have := HQL.out; omega), if_pos rfl] at hqc
            have hqf := HL5.out.frozen p
            have hg9 : g + 1 ≤ 9 := HPU.out.1
            clear hm5 hl5 hc5 hv5 hb5
            go_wp2_with fail
            go_roundg (gk - 1)
            case measure => omega
            case rel => exact ⟨g + 1, ds5, by omega, by omega, by rw [HV5.out]; exact HPU.out.2, HC5.out, HM6.out.setLow (by omega) _, by have h := HL5.out.set p (g + 1); rwa [List.set_set] at h, HB5.out.setCell (Nat.le_refl _) _⟩
    · obtain rfl : p' = 0 := by omega
      obtain ⟨pr, cr, rfl⟩ := mine_form hM
      have HM4 := Lib.hid hM
      have HQB := Lib.hid (show Rb wr (.slice (some ⟨w.heap.size, 0, none⟩) xs.length xs.length) qs from by have h := (LR.mine HL.out (Nat.le_refl w.heap.size)).rb (by omega); rwa [hql] at h)
      have HQM := Lib.hid (show Mine .u8 U8 wr w.heap.size (.slice (some ⟨w.heap.size, 0, none⟩) xs.length xs.length) qs from by have h := LR.mine HL.out (Nat.le_refl w.heap.size); rwa [hql] at h)
      have HCT := Lib.hid (show Calls Tryd.prog 50 #[.slice (some ⟨w.heap.size, 0, none⟩) xs.length xs.length] wr (CutPost wr (some ⟨w.heap.size, 0, none⟩) xs.length qs) from by
        have h := cut_any (some ⟨w.heap.size, 0, none⟩) xs.length qs wr (by rw [hql]; exact HQB.out)
        rwa [hql] at h)
      clear hS hL hM hB hql
      go_wp2_with fail
      refine HCT.out.mono ?_
      rintro e w3 ⟨k, hk, rfl, rfl⟩
      have HR := Lib.hid (hk.canon (b := 10) (by decide) HS.out.qd)
      have HK := Lib.hid hk
      clear hk
      go_wp2_with fail
      go_ret2
      have hS := HS.out
      have heq := hS.eq
      rw [List.drop_zero, List.drop_zero] at heq
      exact ⟨_, k, _, qs.take k, _, _, _, rs, rfl, HQM.out.cut (by have := HK.out.1; have := HQL.out; omega), HM4.out.low (by omega), HR.out.1, hS.rc, by rw [HR.out.2.2]; have := HK.out.1; have := HQL.out; omega, (canon_len (by decide) hS.rc _).2 (Int.lt_trans hS.lt (val_lt (by decide) HY.out.1)), by rw [HR.out.2.1]; exact heq, hS.lt, HB.out⟩
end
section
open Go.ChangeShapes Go.WideShapes Go.ChangeAt Go.RowKit
set_option linter.unusedVariables false
set_option linter.unusedSimpArgs false
def Num2Post (W : World) (z1 z2 : Int) (e : Ending) (w' : World) : Prop :=
  ∃ nq uq qs zq nr ur rs zr, e = .returned (.tuple #[.agg #[.bool nq, uq], .agg #[.bool nr, ur]]) ∧ Rb w' uq qs ∧ Rb w' ur rs ∧ Sgn 10 nq qs zq ∧ Sgn 10 nr rs zr ∧
    z1 = zq * z2 + zr ∧ ((0 ≤ zr ∧ zr < z2) ∨ (z2 < zr ∧ zr ≤ 0)) ∧ Below W.heap.size W w'
theorem ref_same (n : Bool) {X Q V R z1 z2 : Int} (h1 : z1 = sg n X) (h2 : z2 = sg n V) (h : X = Q * V + R) (h0 : 0 ≤ R) (hl : R < V) :
    z1 = sg false Q * z2 + sg n R ∧ ((0 ≤ sg n R ∧ sg n R < z2) ∨ (z2 < sg n R ∧ sg n R ≤ 0)) := by
  subst h1 h2 h
  cases n <;> simp [sg, Int.neg_mul, Int.mul_neg] <;> omega
theorem ref_diff0 (n : Bool) {X Q V z1 z2 : Int} (h1 : z1 = sg (!n) X) (h2 : z2 = sg n V) (h : X = Q * V) (hV : 0 < V) :
    z1 = sg true Q * z2 + 0 ∧ ((0 ≤ (0 : Int) ∧ (0 : Int) < z2) ∨ (z2 < (0 : Int) ∧ (0 : Int) ≤ 0)) := by
  subst h1 h2 h
  cases n <;> simp [sg, Int.neg_mul, Int.mul_neg] <;> omega
theorem ref_diff1 (n : Bool) {X Q V R z1 z2 : Int} (h1 : z1 = sg (!n) X) (h2 : z2 = sg n V) (h : X = Q * V + R) (h0 : 0 < R) (hl : R < V) :
    z1 = sg true (Q + 1) * z2 + sg n (V - R) ∧ ((0 ≤ sg n (V - R) ∧ sg n (V - R) < z2) ∨ (z2 < sg n (V - R) ∧ sg n (V - R) ≤ 0)) := by
  subst h1 h2 h
  cases n <;> simp [sg, Int.neg_mul, Int.mul_neg, Int.add_mul] <;> omega
set_option maxRecDepth 100000 in
set_option maxHeartbeats 4000000 in
theorem refdiv_same (n : Bool) (u1 : Value) (xs : List Int) (z1 : Int) (u2 : Value) (ys : List Int) (z2 : Int) (w : World) (hr1 : Rb w u1 xs) (hr2 : Rb w u2 ys) (hs1 : Sgn 10 n xs z1) (hs2 : Sgn 10 n ys z2) (hl1 : xs.length ≤ 90000) (hl2 : ys.length ≤ 50000) (hy : 0 < ys.length) :
    Calls Tryd.prog 41 #[.agg #[.bool n, u1], .agg #[.bool n, u2]] w (Num2Post w z1 z2) := by
  have HR1 := Lib.hid hr1
  have HR2 := Lib.hid hr2
  obtain ⟨p1, c1, rfl, _, _, _⟩ := rb_form hr1
  obtain ⟨p2, c2, rfl, _, _, _⟩ := rb_form hr2
  have HS1 := Lib.hid hs1
  have HS2 := Lib.hid hs2
  have HVP := Lib.hid (hs2.canon.pos (by decide) hy)
  clear hr1 hr2 hs1 hs2
  have hne : (n == n) = true := by cases n <;> rfl
  go_enter Tryd.func41, Tryd.ntmps41
  go_wp2_with fail
  generalize hw2 : World.alloc (World.alloc (World.alloc (World.alloc w _) _) _) _ = w2
  have HX2 := Lib.hid (show Bx4 w2 w.heap.size n (.slice p1 xs.length c1) n (.slice p2 ys.length c2) by rw [← hw2]; exact bx4_new w _ _ _ _ _)
  have HB2 := Lib.hid (show Below w.heap.size w w2 by rw [← hw2]; exact below4 w _ _ _ _)
  clear hw2
  have x0_2 := HX2.out.x0
  have x1_2 := HX2.out.x1
  have y0_2 := HX2.out.y0
  have y1_2 := HX2.out.y1
  have r0_2 := HX2.out.r0
  have r1_2 := HX2.out.r1
  have f0_2 := HX2.out.f0
  have f1_2 := HX2.out.f1
  have s0_2 := HX2.out.s0
  have s1_2 := HX2.out.s1
  have g0_2 := HX2.out.g0
  have g1_2 := HX2.out.g1
  have lt_2 := HX2.out.lt
  refine (shares_any _ _ xs ys w2 (HR1.out.keep HB2.out) (HR2.out.keep HB2.out) HS1.out.canon.1 HS2.out.canon HVP.out (by omega) hl2).mono ?_
  rintro e w3 ⟨pq, kq, cq, qs, pr, kr, cr, rs, rfl, hMq, hMr, hcq, hcr, hlq, hlr, heq, hlt, hb3⟩
  obtain rfl : kq = qs.length := by obtain ⟨_, _, e⟩ := mine_form hMq; simp only [Value.slice.injEq] at e; exact e.2.1
  obtain rfl : kr = rs.length := by obtain ⟨_, _, e⟩ := mine_form hMr; simp only [Value.slice.injEq] at e; exact e.2.1
  have HMQ3 := Lib.hid (hMq.low HB2.out.size)
  have HMR3 := Lib.hid (hMr.low HB2.out.size)
  have hw2s := HX2.out.lt
  have HMQL := Lib.hid (hMq.low (show w.heap.size + 1 + 1 + 1 + 1 ≤ w2.heap.size by omega))
  have HMRL := Lib.hid (hMr.low (show w.heap.size + 1 + 1 + 1 + 1 ≤ w2.heap.size by omega))
  have HCQ := Lib.hid hcq
  have HCR := Lib.hid hcr
  have HLQ := Lib.hid hlq
  have HLR := Lib.hid hlr
  have HE := Lib.hid heq
  have HL := Lib.hid hlt
  have HX3 := Lib.hid (HX2.out.keep (fun q hq => hb3.block q hq) hb3.size)
  have HB3 := Lib.hid (HB2.out.trans (hb3.mono HB2.out.size))
  clear hMq hMr hcq hcr hlq hlr heq hlt hb3 hw2s x0_2 x1_2 y0_2 y1_2 r0_2 r1_2 f0_2 f1_2 s0_2 s1_2 g0_2 g1_2 lt_2
  have x0_3 := HX3.out.x0
  have x1_3 := HX3.out.x1
  have y0_3 := HX3.out.y0
  have y1_3 := HX3.out.y1
  have r0_3 := HX3.out.r0
  have r1_3 := HX3.out.r1
  have f0_3 := HX3.out.f0
  have f1_3 := HX3.out.f1
  have s0_3 := HX3.out.s0
  have s1_3 := HX3.out.s1
  have g0_3 := HX3.out.g0
  have g1_3 := HX3.out.g1
  have lt_3 := HX3.out.lt
  cases n with
  | false =>
    go_wp2_with fail
    have hf := ref_same false HS1.out.eq HS2.out.eq HE.out (val_nonneg (by decide) HCR.out.1) HL.out
    have hq0 := val_nonneg (by decide : (0 : Int) < 10) HCQ.out.1
    refine bodyPost_ret (v := .tuple #[.agg #[.bool false, (.slice pq qs.length cq)], .agg #[.bool false, (.slice pr rs.length cr)]]) (by simp [results, Tryd.results41, go_sem, r0_3, r1_3, s0_3, s1_3] <;> omega) rfl ?_
    refine ⟨false, _, qs, _, false, _, rs, _, rfl, ((((HMQL.out.setLow (by omega) _).setLow (by omega) _).setLow (by omega) _).setLow (by omega) _).rb (by have := HLQ.out; omega), ((((HMRL.out.setLow (by omega) _).setLow (by omega) _).setLow (by omega) _).setLow (by omega) _).rb (by have := HLR.out; omega), ⟨HCQ.out, fun h => (by cases h), rfl⟩, ⟨HCR.out, fun h => (by cases h), rfl⟩, hf.1, hf.2, ?_⟩
    exact ((((HB3.out.setCell (by simp; omega) _).setCell (by simp; omega) _).setCell (by simp; omega) _).setCell (by simp; omega) _)
  | true =>
    by_cases hz : rs.length = 0
    · have hrz : rs = [] := List.length_eq_zero_iff.1 hz
      subst hrz
      clear hz
      go_wp2_with fail
      have hf := ref_same true HS1.out.eq HS2.out.eq HE.out (val_nonneg (by decide) HCR.out.1) HL.out
      have hq0 := val_nonneg (by decide : (0 : Int) < 10) HCQ.out.1
      refine bodyPost_ret (v := .tuple #[.agg #[.bool false, (.slice pq qs.length cq)], .agg #[.bool false, (.slice pr 0 cr)]]) (by simp [results, Tryd.results41, go_sem, r0_3, r1_3, s0_3, s1_3] <;> omega) rfl ?_
      refine ⟨false, _, qs, _, false, _, [], _, rfl, ((((HMQL.out.setLow (by omega) _).setLow (by omega) _).setLow (by omega) _).setLow (by omega) _).rb (by have := HLQ.out; omega), ((((HMRL.out.setLow (by omega) _).setLow (by omega) _).setLow (by omega) _).setLow (by omega) _).rb (by simp), ⟨HCQ.out, fun h => (by cases h), rfl⟩, (show Sgn 10 false [] (sg true (val 10 [])) from ⟨Canon.nil (by decide), fun h => (by cases h), by simp [sg, val]⟩), hf.1, hf.2, ?_⟩
      exact ((((HB3.out.setCell (by simp; omega) _).setCell (by simp; omega) _).setCell (by simp; omega) _).setCell (by simp; omega) _)
    · have hz2 : (0 : Int) < (rs.length : Int) := by omega
      go_wp2_with fail
      have hf := ref_same true HS1.out.eq HS2.out.eq HE.out (val_nonneg (by decide) HCR.out.1) HL.out
      have hq0 := val_nonneg (by decide : (0 : Int) < 10) HCQ.out.1
      refine bodyPost_ret (v := .tuple #[.agg #[.bool false, (.slice pq qs.length cq)], .agg #[.bool true, (.slice pr rs.length cr)]]) (by simp [results, Tryd.results41, go_sem, r0_3, r1_3, s0_3, s1_3] <;> omega) rfl ?_
      refine ⟨false, _, qs, _, true, _, rs, _, rfl, ((((HMQL.out.setLow (by omega) _).setLow (by omega) _).setLow (by omega) _).setLow (by omega) _).rb (by have := HLQ.out; omega), ((((HMRL.out.setLow (by omega) _).setLow (by omega) _).setLow (by omega) _).setLow (by omega) _).rb (by have := HLR.out; omega), ⟨HCQ.out, fun h => (by cases h), rfl⟩, ⟨HCR.out, fun _ => by omega, rfl⟩, hf.1, hf.2, ?_⟩
      exact ((((HB3.out.setCell (by simp; omega) _).setCell (by simp; omega) _).setCell (by simp; omega) _).setCell (by simp; omega) _)
set_option maxRecDepth 100000 in
set_option maxHeartbeats 4000000 in
theorem refdiv_diff (n : Bool) (u1 : Value) (xs : List Int) (z1 : Int) (u2 : Value) (ys : List Int) (z2 : Int) (w : World) (hr1 : Rb w u1 xs) (hr2 : Rb w u2 ys) (hs1 : Sgn 10 (!n) xs z1) (hs2 : Sgn 10 n ys z2) (hl1 : xs.length ≤ 90000) (hl2 : ys.length ≤ 50000) (hy : 0 < ys.length) :
    Calls Tryd.prog 41 #[.agg #[.bool (!n), u1], .agg #[.bool n, u2]] w (Num2Post w z1 z2) := by
  have HR1 := Lib.hid hr1
  have HR2 := Lib.hid hr2
  obtain ⟨p1, c1, rfl, _, _, _⟩ := rb_form hr1
  obtain ⟨p2, c2, rfl, _, _, _⟩ := rb_form hr2
  have HS1 := Lib.hid hs1
  have HS2 := Lib.hid hs2
  have HVP := Lib.hid (hs2.canon.pos (by decide) hy)
  clear hr1 hr2 hs1 hs2
  have hne : ((!n) == n) = false := by cases n <;> rfl
  go_enter Tryd.func41, Tryd.ntmps41
  go_wp2_with fail
  generalize hw2 : World.alloc (World.alloc (World.alloc (World.alloc w _) _) _) _ = w2
  have HX2 := Lib.hid (show Bx4 w2 w.heap.size (!n) (.slice p1 xs.length c1) n (.slice p2 ys.length c2) by rw [← hw2]; exact bx4_new w _ _ _ _ _)
  have HB2 := Lib.hid (show Below w.heap.size w w2 by rw [← hw2]; exact below4 w _ _ _ _)
  clear hw2
  have x0_2 := HX2.out.x0
  have x1_2 := HX2.out.x1
  have y0_2 := HX2.out.y0
  have y1_2 := HX2.out.y1
  have r0_2 := HX2.out.r0
  have r1_2 := HX2.out.r1
  have f0_2 := HX2.out.f0
  have f1_2 := HX2.out.f1
  have s0_2 := HX2.out.s0
  have s1_2 := HX2.out.s1
  have g0_2 := HX2.out.g0
  have g1_2 := HX2.out.g1
  have lt_2 := HX2.out.lt
  refine (shares_any _ _ xs ys w2 (HR1.out.keep HB2.out) (HR2.out.keep HB2.out) HS1.out.canon.1 HS2.out.canon HVP.out (by omega) hl2).mono ?_
  rintro e w3 ⟨pq, kq, cq, qs, pr, kr, cr, rs, rfl, hMq, hMr, hcq, hcr, hlq, hlr, heq, hlt, hb3⟩
  obtain rfl : kq = qs.length := by obtain ⟨_, _, e⟩ := mine_form hMq; simp only [Value.slice.injEq] at e; exact e.2.1
  obtain rfl : kr = rs.length := by obtain ⟨_, _, e⟩ := mine_form hMr; simp only [Value.slice.injEq] at e; exact e.2.1
  have HMQ3 := Lib.hid (hMq.low HB2.out.size)
  have HMR3 := Lib.hid (hMr.low HB2.out.size)
  have hw2s := HX2.out.lt
  have HMQL := Lib.hid (hMq.low (show w.heap.size + 1 + 1 + 1 + 1 ≤ w2.heap.size by omega))
  have HMRL := Lib.hid (hMr.low (show w.heap.size + 1 + 1 + 1 + 1 ≤ w2.heap.size by omega))
  have HCQ := Lib.hid hcq
  have HCR := Lib.hid hcr
  have HLQ := Lib.hid hlq
  have HLR := Lib.hid hlr
  have HE := Lib.hid heq
  have HL := Lib.hid hlt
  have HX3 := Lib.hid (HX2.out.keep (fun q hq => hb3.block q hq) hb3.size)
  have HB3 := Lib.hid (HB2.out.trans (hb3.mono HB2.out.size))
  clear hMq hMr hcq hcr hlq hlr heq hlt hb3 hw2s x0_2 x1_2 y0_2 y1_2 r0_2 r1_2 f0_2 f1_2 s0_2 s1_2 g0_2 g1_2 lt_2
  have x0_3 := HX3.out.x0
  have x1_3 := HX3.out.x1
  have y0_3 := HX3.out.y0
  have y1_3 := HX3.out.y1
  have r0_3 := HX3.out.r0
  have r1_3 := HX3.out.r1
  have f0_3 := HX3.out.f0
  have f1_3 := HX3.out.f1
  have s0_3 := HX3.out.s0
  have s1_3 := HX3.out.s1
  have g0_3 := HX3.out.g0
  have g1_3 := HX3.out.g1
  have lt_3 := HX3.out.lt
  by_cases hz : rs.length = 0
  · have hrz : rs = [] := List.length_eq_zero_iff.1 hz
    subst hrz
    clear hz
    by_cases hq : qs.length = 0
    · have hqz : qs = [] := List.length_eq_zero_iff.1 hq
      subst hqz
      clear hq
      cases n with
      | false =>
        go_wp2_with fail
        have hf := ref_diff0 false HS1.out.eq HS2.out.eq (show val 10 xs = val 10 [] * val 10 ys from by have := HE.out; simpa [val] using this) HVP.out
        refine bodyPost_ret (v := .tuple #[.agg #[.bool false, (.slice pq 0 cq)], .agg #[.bool false, (.slice pr 0 cr)]]) (by simp [results, Tryd.results41, go_sem, r0_3, r1_3, s0_3, s1_3] <;> omega) rfl ?_
        refine ⟨false, _, [], _, false, _, [], _, rfl, ((((HMQL.out.setLow (by omega) _).setLow (by omega) _).setLow (by omega) _).setLow (by omega) _).rb (by simp), ((((HMRL.out.setLow (by omega) _).setLow (by omega) _).setLow (by omega) _).setLow (by omega) _).rb (by simp), ⟨Canon.nil (by decide), fun h => (by cases h), rfl⟩, (Sgn.zero (by decide)), hf.1, hf.2, ?_⟩
        exact ((((HB3.out.setCell (by simp; omega) _).setCell (by simp; omega) _).setCell (by simp; omega) _).setCell (by simp; omega) _)
      | true =>
        go_wp2_with fail
        have hf := ref_diff0 true HS1.out.eq HS2.out.eq (show val 10 xs = val 10 [] * val 10 ys from by have := HE.out; simpa [val] using this) HVP.out
        refine bodyPost_ret (v := .tuple #[.agg #[.bool false, (.slice pq 0 cq)], .agg #[.bool false, (.slice pr 0 cr)]]) (by simp [results, Tryd.results41, go_sem, r0_3, r1_3, s0_3, s1_3] <;> omega) rfl ?_
        refine ⟨false, _, [], _, false, _, [], _, rfl, ((((HMQL.out.setLow (by omega) _).setLow (by omega) _).setLow (by omega) _).setLow (by omega) _).rb (by simp), ((((HMRL.out.setLow (by omega) _).setLow (by omega) _).setLow (by omega) _).setLow (by omega) _).rb (by simp), ⟨Canon.nil (by decide), fun h => (by cases h), rfl⟩, (Sgn.zero (by decide)), hf.1, hf.2, ?_⟩
        exact ((((HB3.out.setCell (by simp; omega) _).setCell (by simp; omega) _).setCell (by simp; omega) _).setCell (by simp; omega) _)
    · have hq2 : (0 : Int) < (qs.length : Int) := by omega
      cases n with
      | false =>
        go_wp2_with fail
        have hf := ref_diff0 false HS1.out.eq HS2.out.eq (show val 10 xs = val 10 qs * val 10 ys from by have := HE.out; simpa [val] using this) HVP.out
        refine bodyPost_ret (v := .tuple #[.agg #[.bool true, (.slice pq qs.length cq)], .agg #[.bool false, (.slice pr 0 cr)]]) (by simp [results, Tryd.results41, go_sem, r0_3, r1_3, s0_3, s1_3] <;> omega) rfl ?_
        refine ⟨true, _, qs, _, false, _, [], _, rfl, ((((HMQL.out.setLow (by omega) _).setLow (by omega) _).setLow (by omega) _).setLow (by omega) _).rb (by have := HLQ.out; omega), ((((HMRL.out.setLow (by omega) _).setLow (by omega) _).setLow (by omega) _).setLow (by omega) _).rb (by simp), ⟨HCQ.out, fun _ => by omega, rfl⟩, (Sgn.zero (by decide)), hf.1, hf.2, ?_⟩
        exact ((((HB3.out.setCell (by simp; omega) _).setCell (by simp; omega) _).setCell (by simp; omega) _).setCell (by simp; omega) _)
      | true =>
        go_wp2_with fail
        have hf := ref_diff0 true HS1.out.eq HS2.out.eq (show val 10 xs = val 10 qs * val 10 ys from by have := HE.out; simpa [val] using this) HVP.out
        refine bodyPost_ret (v := .tuple #[.agg #[.bool true, (.slice pq qs.length cq)], .agg #[.bool false, (.slice pr 0 cr)]]) (by simp [results, Tryd.results41, go_sem, r0_3, r1_3, s0_3, s1_3] <;> omega) rfl ?_
        refine ⟨true, _, qs, _, false, _, [], _, rfl, ((((HMQL.out.setLow (by omega) _).setLow (by omega) _).setLow (by omega) _).setLow (by omega) _).rb (by have := HLQ.out; omega), ((((HMRL.out.setLow (by omega) _).setLow (by omega) _).setLow (by omega) _).setLow (by omega) _).rb (by simp), ⟨HCQ.out, fun _ => by omega, rfl⟩, (Sgn.zero (by decide)), hf.1, hf.2, ?_⟩
        exact ((((HB3.out.setCell (by simp; omega) _).setCell (by simp; omega) _).setCell (by simp; omega) _).setCell (by simp; omega) _)
  · have hz2 : (0 : Int) < (rs.length : Int) := by omega
    have HRP := Lib.hid (HCR.out.pos (b := 10) (by decide) (by omega))
    go_wp2_with fail
    refine (plus_any (.slice pq qs.length cq) (.slice (some ⟨w3.heap.size, 0, none⟩) 1 1) qs [1] (w3.alloc (.cells #[.int .u8 1] U8)) ((HMQ3.out.rb (by have := HLQ.out; omega)).keep ((Below.refl _ _).alloc (Nat.le_refl _) _)) ((LR.mine (k := .u8) (T := U8) (ws := [1]) (heap_alloc_new w3 _) (Nat.le_refl _)).rb (by simp)) HCQ.out.1 (Dig.cons (by omega) (Dig.nil (by decide))) (by have := HLQ.out; omega) (by simp)).mono ?_
    rintro e w4 ⟨u4, ds4, rfl, hm4, hl4, hc4, hv4, hb4x⟩
    have hb4 : Below w3.heap.size w3 w4 := (show Below w3.heap.size w3 (w3.alloc (.cells #[.int .u8 1] U8)) from (Below.refl _ _).alloc (Nat.le_refl _) _).trans (hb4x.mono (by simp))
    obtain ⟨p4, c4, rfl⟩ := mine_form hm4
    have HM4 := Lib.hid hm4
    have HC4 := Lib.hid hc4
    have HV4 := Lib.hid (show val 10 ds4 = val 10 qs + 1 by rw [hv4, val_one])
    have HX4 := Lib.hid (HX3.out.keep (fun q hq => hb4.block q hq) hb4.size)
    have HB4 := Lib.hid (HB3.out.trans (hb4.mono HB3.out.size))
    have HMR4 := Lib.hid (HMR3.out.keep hb4)
    have h3s := HX3.out.lt
    have HM4L := Lib.hid (hm4.low (show w.heap.size + 1 + 1 + 1 + 1 ≤ (w3.alloc (.cells #[.int .u8 1] U8)).heap.size by simp; omega))
    clear hm4 hl4 hc4 hv4 hb4 hb4x h3s x0_3 x1_3 y0_3 y1_3 r0_3 r1_3 f0_3 f1_3 s0_3 s1_3 g0_3 g1_3 lt_3
    have x0_4 := HX4.out.x0
    have x1_4 := HX4.out.x1
    have y0_4 := HX4.out.y0
    have y1_4 := HX4.out.y1
    have r0_4 := HX4.out.r0
    have r1_4 := HX4.out.r1
    have f0_4 := HX4.out.f0
    have f1_4 := HX4.out.f1
    have s0_4 := HX4.out.s0
    have s1_4 := HX4.out.s1
    have g0_4 := HX4.out.g0
    have g1_4 := HX4.out.g1
    have lt_4 := HX4.out.lt
    go_wp2_with fail
    refine (minus_any (.slice p2 ys.length c2) (.slice pr rs.length cr) ys rs w4 (HR2.out.keep HB4.out) (HMR4.out.rb (by have := HLR.out; omega)) HS2.out.canon.1 HCR.out.1 (by omega) HLR.out (by have := HL.out; omega)).mono ?_
    rintro e w5 ⟨u5, ds5, rfl, hm5, hl5, hc5, hv5, hb5⟩
    obtain ⟨p5, c5, rfl⟩ := mine_form hm5
    have HC5 := Lib.hid hc5
    have HV5 := Lib.hid hv5
    have HX5 := Lib.hid (HX4.out.keep (fun q hq => hb5.block q hq) hb5.size)
    have HB5 := Lib.hid (HB4.out.trans (hb5.mono HB4.out.size))
    have HM45 := Lib.hid (HM4L.out.keep hb5)
    have h4s := HX4.out.lt
    have HM5L := Lib.hid (hm5.low (show w.heap.size + 1 + 1 + 1 + 1 ≤ w4.heap.size by omega))
    clear hm5 hl5 hc5 hv5 hb5 h4s x0_4 x1_4 y0_4 y1_4 r0_4 r1_4 f0_4 f1_4 s0_4 s1_4 g0_4 g1_4 lt_4
    have x0_5 := HX5.out.x0
    have x1_5 := HX5.out.x1
    have y0_5 := HX5.out.y0
    have y1_5 := HX5.out.y1
    have r0_5 := HX5.out.r0
    have r1_5 := HX5.out.r1
    have f0_5 := HX5.out.f0
    have f1_5 := HX5.out.f1
    have s0_5 := HX5.out.s0
    have s1_5 := HX5.out.s1
    have g0_5 := HX5.out.g0
    have g1_5 := HX5.out.g1
    have lt_5 := HX5.out.lt
    have HP4 := Lib.hid (show 0 < ds4.length from by cases ds4 with | nil => (have h1 := HV4.out; have h2 := val_nonneg (by decide : (0 : Int) < 10) HCQ.out.1; simp only [val] at h1; omega) | cons a b => simp)
    have HP5 := Lib.hid (show 0 < ds5.length from by cases ds5 with | nil => (have h1 := HV5.out; have h2 := HL.out; simp only [val] at h1; omega) | cons a b => simp)
    have hp4 : (0 : Int) < (ds4.length : Int) := by have := HP4.out; omega
    have hp5 : (0 : Int) < (ds5.length : Int) := by have := HP5.out; omega
    cases n with
    | false =>
      go_wp2_with fail
      have hf := ref_diff1 false HS1.out.eq HS2.out.eq HE.out HRP.out HL.out
      rw [← HV4.out, ← HV5.out] at hf
      refine bodyPost_ret (v := .tuple #[.agg #[.bool true, (.slice p4 ds4.length c4)], .agg #[.bool false, (.slice p5 ds5.length c5)]]) (by simp [results, Tryd.results41, go_sem, r0_5, r1_5, s0_5, s1_5] <;> omega) rfl ?_
      refine ⟨true, _, ds4, _, false, _, ds5, _, rfl, ((((HM45.out.setLow (by omega) _).setLow (by omega) _).setLow (by omega) _).setLow (by omega) _).rb (by have h1 := HV4.out; have h2 := HLQ.out; have h3 := val_lt (by decide : (0 : Int) < 10) HCQ.out.1; have h5 := val_nonneg (by decide : (0 : Int) < 10) HCQ.out.1; have h4 := (canon_len (by decide) HC4.out (qs.length + 1)).2 (by rw [Int.pow_succ]; omega); omega), ((((HM5L.out.setLow (by omega) _).setLow (by omega) _).setLow (by omega) _).setLow (by omega) _).rb (by have h1 := HV5.out; have h2 := val_lt (by decide : (0 : Int) < 10) HS2.out.canon.1; have h3 := (canon_len (by decide) HC5.out ys.length).2 (by have := HRP.out; omega); omega), ⟨HC4.out, fun _ => by exact HP4.out, rfl⟩, ⟨HC5.out, fun _ => HP5.out, rfl⟩, hf.1, hf.2, ?_⟩
      exact ((((HB5.out.setCell (by simp; omega) _).setCell (by simp; omega) _).setCell (by simp; omega) _).setCell (by simp; omega) _)
    | true =>
      go_wp2_with fail
      have hf := ref_diff1 true HS1.out.eq HS2.out.eq HE.out HRP.out HL.out
      rw [← HV4.out, ← HV5.out] at hf
      refine bodyPost_ret (v := .tuple #[.agg #[.bool true, (.slice p4 ds4.length c4)], .agg #[.bool true, (.slice p5 ds5.length c5)]]) (by simp [results, Tryd.results41, go_sem, r0_5, r1_5, s0_5, s1_5] <;> omega) rfl ?_
      refine ⟨true, _, ds4, _, true, _, ds5, _, rfl, ((((HM45.out.setLow (by omega) _).setLow (by omega) _).setLow (by omega) _).setLow (by omega) _).rb (by have h1 := HV4.out; have h2 := HLQ.out; have h3 := val_lt (by decide : (0 : Int) < 10) HCQ.out.1; have h5 := val_nonneg (by decide : (0 : Int) < 10) HCQ.out.1; have h4 := (canon_len (by decide) HC4.out (qs.length + 1)).2 (by rw [Int.pow_succ]; omega); omega), ((((HM5L.out.setLow (by omega) _).setLow (by omega) _).setLow (by omega) _).setLow (by omega) _).rb (by have h1 := HV5.out; have h2 := val_lt (by decide : (0 : Int) < 10) HS2.out.canon.1; have h3 := (canon_len (by decide) HC5.out ys.length).2 (by have := HRP.out; omega); omega), ⟨HC4.out, fun _ => by exact HP4.out, rfl⟩, ⟨HC5.out, fun _ => HP5.out, rfl⟩, hf.1, hf.2, ?_⟩
      exact ((((HB5.out.setCell (by simp; omega) _).setCell (by simp; omega) _).setCell (by simp; omega) _).setCell (by simp; omega) _)
theorem refdiv_any (n1 : Bool) (u1 : Value) (xs : List Int) (z1 : Int) (n2 : Bool) (u2 : Value) (ys : List Int) (z2 : Int) (w : World) (hr1 : Rb w u1 xs) (hr2 : Rb w u2 ys) (hs1 : Sgn 10 n1 xs z1) (hs2 : Sgn 10 n2 ys z2) (hl1 : xs.length ≤ 90000) (hl2 : ys.length ≤ 50000) (hy : 0 < ys.length) :
    Calls Tryd.prog 41 #[.agg #[.bool n1, u1], .agg #[.bool n2, u2]] w (Num2Post w z1 z2) := by
  by_cases h : n1 = n2
  · subst h; exact refdiv_same n1 u1 xs z1 u2 ys z2 w hr1 hr2 hs1 hs2 hl1 hl2 hy
  · have e : n1 = !n2 := by cases n1 <;> cases n2 <;> simp_all
    subst e; exact refdiv_diff n2 u1 xs z1 u2 ys z2 w hr1 hr2 hs1 hs2 hl1 hl2 hy
theorem div_uniq {z2 q r q' r' : Int} (h : q * z2 + r = q' * z2 + r') (h1 : (0 ≤ r ∧ r < z2) ∨ (z2 < r ∧ r ≤ 0)) (h2 : (0 ≤ r' ∧ r' < z2) ∨ (z2 < r' ∧ r' ≤ 0)) : q = q' ∧ r = r' := by
  have e : (q - q') * z2 = r' - r := by rw [Int.sub_mul]; omega
  have hq : q - q' = 0 := by
    by_cases a : 1 ≤ q - q'
    · by_cases hz : 0 < z2
      · have := Int.mul_le_mul_of_nonneg_right a (show 0 ≤ z2 by omega); omega
      · have := Int.mul_le_mul_of_nonpos_right a (show z2 ≤ 0 by omega); omega
    · by_cases b : q - q' ≤ -1
      · by_cases hz : 0 < z2
        · have := Int.mul_le_mul_of_nonneg_right b (show 0 ≤ z2 by omega); omega
        · have := Int.mul_le_mul_of_nonpos_right b (show z2 ≤ 0 by omega); omega
      · omega
  rw [hq, Int.zero_mul] at e
  omega
end
end Go.Proofs.YtapeomcnjjfihaaDoor
