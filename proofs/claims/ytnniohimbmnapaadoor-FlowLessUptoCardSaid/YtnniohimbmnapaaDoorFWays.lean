/- Layer 10: where the ways from an instruction lead. -/
import Derived.Test.YtnniohimbmnapaaDoorKa
namespace Go.Proofs.YtnniohimbmnapaaDoor
open Go Go.ChangeShapes Go.WideShapes Go.RowKit
set_option linter.unusedVariables false
set_option linter.unusedSimpArgs false
attribute [local go_sem] Oper.semAt_some
/-- What the rounds of Ways hold. -/
structure WJ (F : FuncD) (x : Nat) (w : World) (E k : Nat) (A : World) (v : Value) : Prop where
  box : Boxed A (w.heap.size + 1) 31 v
  own : OI A E v (((waysD F x).take k).map (·.1))
  low : Below w.heap.size w A
def WJX (F : FuncD) (x : Nat) (w : World) (E k : Nat) (A : World) : Prop := ∃ v, WJ F x w E k A v
theorem take_fst {l : List (Int × List Int)} {k : Nat} {q : Int × List Int} (hk : k < l.length) (h : l.getD k wayZ = q) : (l.take (k + 1)).map (·.1) = (l.take k).map (·.1) ++ [q.1] := by
  rw [List.getD_eq_getElem?_getD, List.getElem?_eq_getElem hk] at h
  simp only [Option.getD_some] at h
  rw [List.take_succ_eq_append_getElem hk, List.map_append, h]; rfl
theorem it_arg {F : FuncD} {x S k : Nat} {A : World} {to : Int} {ws : List Int} {u : Value} (h : ItW F x S k A #[.int .i64 to, u]) (hq : (waysD F x).getD k wayZ = (to, ws)) : OI A S u ws := by
  obtain ⟨u', he, hu⟩ := h
  simp only [hq, List.toArray_eq_iff] at he hu
  simp at he
  rw [he]; exact hu
set_option maxRecDepth 100000 in
set_option maxHeartbeats 8000000 in
theorem ways_any (r : RestV) (F : FuncD) (iv rv : Value) (x : Nat) (w : World) (hU : Us w) (hI : Ii w iv F.ins) (hR : Rg w rv F.regions) (hx : x < F.ins.length) :
    Calls Tryd.prog 19 #[funcV r F iv rv, .int .i64 x] w (LPost w ((waysD F x).map (·.1))) := by
  have HW := Lib.hid (within_any x F.ins.length)
  have hin : inB x F.ins.length = true := by unfold inB; simp; omega
  rw [hin] at HW
  have HEA := each_any r F iv rv x
  unfold funcV at HEA ⊢
  have HEA := Lib.hid HEA
  obtain ⟨p, c, rfl, hc, hm, hp⟩ := ii_form hI
  obtain ⟨p2, c2, rfl, hc2, hm2, hp2⟩ := rg_form hR
  have HI := Lib.hid hI
  have HR := Lib.hid hR
  have HU := Lib.hid hU
  clear hin hp hp2 hI hR hU
  refine calls_of_marks Tryd.func19 rfl ?_
  simp only [Tryd.ntmps19, List.size_toArray, List.length_cons, List.length_nil, Nat.reduceAdd, Nat.reduceSub, Array.replicate_succ, Array.replicate_zero, List.push_toArray, List.append_toArray, List.nil_append, List.cons_append]
  go_wp2_with (first | (go_at_call 45; (with_reducible refine (HW.out _).mono ?_); rintro e w9 ⟨rfl, rfl⟩) | (go_at_call 49; (with_reducible refine (HEA.out _).mono ?_); rintro e w9 ⟨rfl, rfl⟩) | fail)
  obtain ⟨WL, hWL⟩ : ∃ WL, (((w.alloc (.cells #[.string r.name, .int .i64 F.params, .int .i64 F.regs, .int .i64 r.frees, .bool r.gen, .int .i64 r.bound, .slice r.np r.nn r.nc, .slice r.cp r.cn r.cc, .slice p F.ins.length c, .slice p2 F.regions.length c2] 27)).alloc (.cells #[.slice none 0 0] 31)).alloc (.cells #[.string r.name, .int .i64 F.params, .int .i64 F.regs, .int .i64 r.frees, .bool r.gen, .int .i64 r.bound, .slice r.np r.nn r.nc, .slice r.cp r.cn r.cc, .slice p F.ins.length c, .slice p2 F.regions.length c2] 27)).alloc (.cells #[.int .i64 x] 3) = WL := ⟨_, rfl⟩
  have hsz : WL.heap.size = w.heap.size + 4 := by rw [← hWL]; simp
  have hbl : Below w.heap.size w WL := by rw [← hWL]; ((repeat' (first | with_reducible assumption | with_reducible exact Below.refl _ _ | with_reducible refine Below.drew ?_ | with_reducible refine Below.alloc ?_ (by first | omega | (simp; omega) | (simp; done) | fail) _ | with_reducible refine Below.setCell ?_ (by first | omega | (simp; omega) | (simp; done) | fail) _ | fail)); (first | done | fail))
  have hbo : Boxed WL (w.heap.size + 1) 31 (.slice none 0 0) := by rw [← hWL]; exact ((by have := Boxed.new (w.alloc (.cells #[.string r.name, .int .i64 F.params, .int .i64 F.regs, .int .i64 r.frees, .bool r.gen, .int .i64 r.bound, .slice r.np r.nn r.nc, .slice r.cp r.cn r.cc, .slice p F.ins.length c, .slice p2 F.regions.length c2] 27)) 31 (.slice none 0 0); rwa [World.size_alloc] at this : Boxed _ _ _ _).alloc _).alloc _
  have hbf : Box10 WL (w.heap.size + 2) r F (.slice p F.ins.length c) (.slice p2 F.regions.length c2) := by
    rw [← hWL]
    have := Box10.new ((w.alloc (.cells #[.string r.name, .int .i64 F.params, .int .i64 F.regs, .int .i64 r.frees, .bool r.gen, .int .i64 r.bound, .slice r.np r.nn r.nc, .slice r.cp r.cn r.cc, .slice p F.ins.length c, .slice p2 F.regions.length c2] 27)).alloc (.cells #[.slice none 0 0] 31)) r F (.slice p F.ins.length c) (.slice p2 F.regions.length c2) 27
    simp only [World.size_alloc] at this
    exact this.keep ((Below.refl _ _).alloc (Nat.le_refl _) _) (by simp)
  have hba : WL.cell? ⟨w.heap.size + 3, 0, none⟩ = some (.int .i64 x) := by
    rw [← hWL]
    have := cell_new (w := ((w.alloc (.cells #[.string r.name, .int .i64 F.params, .int .i64 F.regs, .int .i64 r.frees, .bool r.gen, .int .i64 r.bound, .slice r.np r.nn r.nc, .slice r.cp r.cn r.cc, .slice p F.ins.length c, .slice p2 F.regions.length c2] 27)).alloc (.cells #[.slice none 0 0] 31)).alloc (.cells #[.string r.name, .int .i64 F.params, .int .i64 F.regs, .int .i64 r.frees, .bool r.gen, .int .i64 r.bound, .slice r.np r.nn r.nc, .slice r.cp r.cn r.cc, .slice p F.ins.length c, .slice p2 F.regions.length c2] 27)) (cs := #[.int .i64 x]) (T := 3) (k := 0) rfl
    simp only [World.size_alloc] at this
    exact this
  rw [hWL]
  have HSZ := Lib.hid hsz
  have HBL := Lib.hid hbl
  have HBO := Lib.hid hbo
  have HBF := Lib.hid hbf
  have HBA := Lib.hid hba
  clear hsz hbl hbo hbf hba hWL
  have hsz1 : w.heap.size + 4 ≤ WL.heap.size := by rw [HSZ.out]; omega
  have hsz2 : WL.heap.size ≤ w.heap.size + 4 := by rw [HSZ.out]; omega
  refine wp_rangeE (K := fun b => b < w.heap.size ∨ b = w.heap.size + 2 ∨ b = w.heap.size + 3) (It := ItW F x (WL.heap.size + 2)) (N := (waysD F x).length) (by rfl) (fun _ _ => enter_closure _ _) ?hseq ?hKs ?hps
    (WJX F x w) ?hJ ?hIt ?h0 ?hround ?hdone
  case hseq =>
    intro W hk hs
    have h := each_gives r F _ _ x w W (w.heap.size + 2) (w.heap.size + 3) (fun b => b < w.heap.size ∨ b = w.heap.size + 2 ∨ b = w.heap.size + 3) HU.out HI.out HR.out hx (HBL.out.trans (hk.below (by omega) fun _ _ => trivial)) (fun b hb => .inl hb) (.inr (.inl rfl)) (.inr (.inr rfl)) (HBF.out.block (hk.block _ trivial (by omega))) ((World.cell?_of_block (a := ⟨w.heap.size + 3, 0, none⟩) (hk.block _ trivial (by dsimp only; omega))).trans HBA.out)
    rwa [hs] at h
  case hKs => intro b hb; omega
  case hps => rintro k A args ⟨u, rfl, _⟩; rfl
  case hJ =>
    rintro E k A B hE ⟨v, h1, h2, h3⟩ hk
    exact ⟨v, Boxed.kw h1 hk (by omega), h2.kw hk (fun g hg => by have := h2.lt hg; omega), h3.trans (hk.below h3.size fun b hb => by omega)⟩
  case hIt =>
    rintro k A B args ⟨u, rfl, hu⟩ hk
    exact ⟨u, rfl, OW.kw hu hk (fun g hg => by have := OW.lt hu hg; omega)⟩
  case h0 => exact fun E => ⟨_, HBO.out, OW.nil _ _, HBL.out⟩
  case hround =>
    rintro l E k args A hE hEA hkN hj ⟨u, rfl, hu⟩
    obtain ⟨⟨to, ws⟩, htw⟩ : ∃ q, (waysD F x).getD k wayZ = q := ⟨_, rfl⟩
    rw [htw] at hu ⊢
    have HN := Lib.hid hkN
    have HTW := Lib.hid htw
    have HTF := Lib.hid (take_fst hkN htw)
    clear hj hu htw hkN
    gi_wp2
    (try refine ⟨trivial, ?_⟩)
    intro A' hEA' hj hit
    obtain ⟨v, h1, h2, h3⟩ := hj
    have hl3 := waysD_le F x
    have hlk : (((waysD F x).take k).map (·.1)).length ≤ 3 := by simp; omega
    generalize hls : ((waysD F x).take k).map (·.1) = ls at h2 hlk HTF
    clear hls hit
    have hc1 := h1.cell
    have hf1 := h1.frozen
    have hlt1 := h1.lt
    have H1 := Lib.hid h1
    have H2 := Lib.hid h2
    have H3 := Lib.hid h3
    obtain ⟨pv, cv, rfl⟩ := own_form h2
    clear h1 h2 h3 hl3
    have hc1a := alloc_cell hc1 (.cells #[.int .i64 to] 3)
    gi_wp2_with (gi_at_builtin; refine wpListIn_app (l := l) rfl (.tmp 18) (.tmp 20) rfl Tryd.underlying31 infoInt rfl rfl (v := .slice pv ls.length cv) (base := E) (n := ls.length) (m := 1) (xs := ls.map (Value.int .i64)) (news := [.int .i64 to]) (OW.keep H2.out ((Below.refl _ _).alloc (Nat.le_refl _) _)) rfl (src_one rfl) (by simp [Value.oneCell']) (by unfold maxLen; omega) (by omega) (by simp; omega) ?_; intro v' w1 hap; have HAP := Lib.hid hap; clear hap; have hb1 := H1.out.alloc (.cells #[.int .i64 to] 3) |>.kept HAP.out.grown (fun e => by have := OW.lt H2.out (g := w.heap.size + 1) (by rw [← e]); omega); have HB1 := Lib.hid hb1; have hc1' := hb1.cell; have hf1' := hb1.frozen; clear hb1; obtain ⟨pv', cv', rfl⟩ := own_form (own_apd HAP.out))
    have hoa : OI w1 E (.slice pv' (ls ++ [to]).length cv') (ls ++ [to]) := own_apd HAP.out
    rw [List.length_append, List.length_singleton] at hoa
    have HOA := Lib.hid hoa
    have hrow : ∀ g, (Value.slice pv ls.length cv).ownBlock = some g → E ≤ g := fun g hg => (OW.lt H2.out hg).1
    refine ⟨⟨_, HB1.out.set _, ?_, ?_⟩, ?_⟩
    · rw [HTF.out]
      exact OW.block HOA.out (fun g hg => Below.heap_setCell _ _ _ g (by have := OW.lt HOA.out hg; dsimp only; omega))
    · exact ((H3.out.alloc H3.out.size _).trans (HAP.out.below (by have := H3.out.size; simp; omega) (fun g hg => by have := hrow g hg; omega))).setCell (by dsimp only; omega) _
    · exact (((Kw.refl _ A').alloc _).grown HAP.out.grown (fun g hg hr => by have := hrow g hg; rcases hr with h | h | h | h <;> omega)).setCell _ _ (fun hr => by dsimp only at hr; rcases hr with h | h | h | h <;> omega)
  case hdone =>
    intro E W hE hj hD
    obtain ⟨v, h1, h2, h3⟩ := hj
    have hc1 := h1.cell
    have H2 := Lib.hid h2
    have H3 := Lib.hid h3
    have HD := Lib.hid hD
    obtain ⟨pv, cv, rfl⟩ := own_form h2
    clear h1 h2 h3 hD
    rw [show (waysD F x).take (waysD F x).length = waysD F x from List.take_length] at hc1 H2
    go_wp2
    refine leaves_marks (S := WL.heap.size) _ _ ⟨[WL.heap.size], rfl, by simp, fun D hm => by simp at hm; subst hm; exact ⟨Nat.le_refl _, HD.out⟩⟩ ?_
    intro W' hk
    have h : OI W E (.slice pv ((waysD F x).map (·.1)).length cv) ((waysD F x).map (·.1)) := H2.out
    rw [List.length_map] at h
    exact ⟨_, results_tmp rfl _ _ _, ⟨_, rfl, OW.low (OW.leave h hk) (by omega), H3.out.trans (hk.below H3.out.size fun b hb => .inl (by omega))⟩⟩
end Go.Proofs.YtnniohimbmnapaaDoor
