/- Layer 12: functions stay, what is answered is memory of its own: the walk. -/
import Derived.Test.YtnniohimbmnapaaDoorK12
import Derived.Test.YtnniohimbmnapaaDoorKeepMaps
import Derived.Test.YtnniohimbmnapaaDoorSameMaps
import Derived.Test.YtnniohimbmnapaaDoorSameF
import Derived.Test.YtnniohimbmnapaaDoorCopyF
import Derived.Deep.QuietTactic
import Derived.BigQuiet
import Derived.WalkSmall
namespace Go.Proofs.YtnniohimbmnapaaDoor
open Go Go.ChangeShapes Go.WideShapes Go.RowKit
set_option linter.unusedVariables false
set_option linter.unusedSimpArgs false
theorem RowsA.low {w : World} {S0 S1 : Nat} {vs : List Value} (h : RowsA w S0 vs) (hS : S1 ≤ S0) : RowsA w S1 vs := ⟨fun i hi => (h.row i hi).low hS, h.disj⟩
theorem io_form {w : World} {B : Nat} {v : Value} {is : List InsD} (h : IO w B v is) : ∃ p c, v = .slice p is.length c := by
  obtain ⟨us, h1, h2, h3⟩ := h
  obtain ⟨p, c, rfl, _⟩ := ownS_form h2
  exact ⟨p, c, rfl⟩
/-- A function's value in a new box beside an older one. -/
theorem box_al {w : World} {g : Nat} {r : RestV} {F : FuncD} {iv rv : Value} (h : Box10 w g r F iv rv) (o : Obj) : Box10 (w.alloc o) g r F iv rv := h.keep ((Below.refl w.heap.size w).alloc (Nat.le_refl _) o) (World.block_lt_of_cell? _ _ h.c0)
set_option maxRecDepth 100000 in
set_option maxHeartbeats 16000000 in
theorem law_rkeeps (r : RestV) (F : FuncD) (iv rv : Value) (nx cx : List Value) (w : World) (hU : Us w) (hI : Ii w iv F.ins) (hR : Rg w rv F.regions) (hN : Nm w r nx) (hC : Cn w r cx) (hnn : F.ins.length ≤ 1048576) (hnr : F.regions.length ≤ 1048576) (hll : ∀ i, i < F.ins.length → (F.ins.getD i insZ).l.length ≤ 1048576) :
    Calls Tryd.prog 13 #[funcV r F iv rv] w fun e w' => e = .returned (.bool true) ∧ Below w.heap.size w w' := by
  have HLK := fun w hU hI hR => maps_keep r F iv rv w hU hI hR hnn
  have HCF := fun w hI hR hN hC => copyf_any r F iv rv nx cx w hI hR hN hC hnn hnr hll
  obtain ⟨p, c, rfl, _, _, _⟩ := ii_form hI
  obtain ⟨p2, c2, rfl, _, _, _⟩ := rg_form hR
  unfold funcV at HLK HCF ⊢
  replace HLK := Lib.hid HLK
  replace HCF := Lib.hid HCF
  have HX := Lib.hid (Box10.new w r F (.slice p F.ins.length c) (.slice p2 F.regions.length c2) 27)
  have HB0 := Lib.hid (show Below w.heap.size w (w.alloc (.cells #[.string r.name, .int .i64 F.params, .int .i64 F.regs, .int .i64 r.frees, .bool r.gen, .int .i64 r.bound, .slice r.np r.nn r.nc, .slice r.cp r.cn r.cc, .slice p F.ins.length c, .slice p2 F.regions.length c2] 27)) from by ((repeat' (first | with_reducible assumption | with_reducible exact Below.refl _ _ | with_reducible refine Below.drew ?_ | with_reducible refine Below.alloc ?_ (by first | omega | (simp; omega) | (simp; done) | fail) _ | with_reducible refine Below.setCell ?_ (by first | omega | (simp; omega) | (simp; done) | fail) _ | fail)); (first | done | fail)))
  have HU := Lib.hid hU
  have HI := Lib.hid hI
  have HR := Lib.hid hR
  have HN := Lib.hid hN
  have HC := Lib.hid hC
  have HLL := Lib.hid hll
  obtain ⟨name, frees, gen, bound, np, nn, nc, cp, cn, cc⟩ := r
  dsimp only at HB0 HLK HCF ⊢
  obtain ⟨ec, hec⟩ : ∃ ec, ecL F = ec := ⟨_, rfl⟩
  rw [hec] at HLK
  have hne : (ec != ec) = false := by simp
  clear hU hI hR hN hC hll hec
  go_enter Tryd.func13, Tryd.ntmps13
  go_wp2_with (first
    | (go_at_call 33; (with_reducible refine (known12 _ (HU.out.keep (by ((repeat' (first | with_reducible assumption | with_reducible exact Below.refl _ _ | with_reducible refine Below.drew ?_ | with_reducible refine Below.alloc ?_ (by first | omega | (simp; omega) | (simp; done) | fail) _ | with_reducible refine Below.setCell ?_ (by first | omega | (simp; omega) | (simp; done) | fail) _ | fail)); (first | done | fail))))).mono ?_); rintro e wA ⟨rfl, hb⟩; have HA := Lib.hid (HB0.out.trans (hb.mono (by simp))); have HXA := Lib.hid (HX.out.keep hb (by simp)); obtain ⟨x0, x1, x2, x3, x4, x5, x6, x7, x8, x9⟩ := HXA.out; dsimp only at x0 x1 x2 x3 x4 x5 x6 x7 x8 x9; clear hb)
    | (go_at_call 28; (with_reducible refine (HCF.out wA (HI.out.keep HA.out) (HR.out.keep HA.out) (HN.out.keep HA.out) (HC.out.keep HA.out)).mono ?_); rintro e wB ⟨⟨name', frees', gen', bound', np', nn', nc', cp', cn', cc'⟩, ivc, rvc, rfl, en, ef, eg, eb, enn, ecn, hN', hC', hR', hIO, hb⟩; dsimp only at en ef eg eb enn ecn; subst en ef eg eb enn ecn; obtain ⟨pI, cI, rfl⟩ := io_form hIO; obtain ⟨pR, cR, rfl, _, _, _⟩ := rg_form hR'; have hsA := World.block_lt_of_cell? _ _ HXA.out.c0; dsimp only at hsA; have hI' := hIO.ii (Nat.le_trans hnn (by omega)) (fun i hi => Nat.le_trans (HLL.out i hi) (by omega)); unfold funcV; dsimp only; have hal := (Below.refl wB.heap.size wB).alloc (Nat.le_refl _) (.cells #[.string name', .int .i64 F.params, .int .i64 F.regs, .int .i64 frees', .bool gen', .int .i64 bound', .slice np' nn' nc', .slice cp' cn' cc', .slice pI F.ins.length cI, .slice pR F.regions.length cR] 27); have HB1 := Lib.hid ((HA.out.trans (hb.mono HA.out.size)).trans (hal.mono (HA.out.trans (hb.mono HA.out.size)).size)); have HX1 := Lib.hid (box_al (HXA.out.keep hb hsA) (.cells #[.string name', .int .i64 F.params, .int .i64 F.regs, .int .i64 frees', .bool gen', .int .i64 bound', .slice np' nn' nc', .slice cp' cn' cc', .slice pI F.ins.length cI, .slice pR F.regions.length cR] 27)); have HY1 := Lib.hid (Box10.new wB ⟨name', frees', gen', bound', np', nn', nc', cp', cn', cc'⟩ F (.slice pI F.ins.length cI) (.slice pR F.regions.length cR) 27); have HN1 := Lib.hid (hN'.keep hal); have HC1 := Lib.hid (hC'.keep hal); have HR1 := Lib.hid (hR'.keep hal); have HI1 := Lib.hid (hI'.keep hal); clear hb hN' hC' hR' hIO hI' hal x0 x1 x2 x3 x4 x5 x6 x7 x8 x9 hsA; obtain ⟨x0, x1, x2, x3, x4, x5, x6, x7, x8, x9⟩ := HX1.out; dsimp only at x0 x1 x2 x3 x4 x5 x6 x7 x8 x9)
    | (go_at_call 34; (with_reducible refine (HLK.out _ (HU.out.keep HB1.out) (HI.out.keep HB1.out) (HR.out.keep HB1.out)).mono ?_); rintro e wC ⟨q1, n1, d1, vals1, L1, rfl, hl1, hn1, hs1, ho1, hr1, hm1, hq1, hb⟩; have hsB := World.block_lt_of_cell? _ _ HX1.out.c0; have hsY := World.block_lt_of_cell? _ _ HY1.out.c0; dsimp only at hsB hsY; have HBC := Lib.hid hb; have HB2 := Lib.hid (HB1.out.trans (hb.mono HB1.out.size)); have HX2 := Lib.hid (HX1.out.keep hb hsB); have HY2 := Lib.hid (HY1.out.keep hb hsY); have HL1 := Lib.hid hl1; have HS1 := Lib.hid hs1; have HO1 := Lib.hid ho1; have HRA1 := Lib.hid hr1; have HM1 := Lib.hid hm1; have HQ1 := Lib.hid hq1; clear hb hl1 hs1 ho1 hr1 hm1 hq1 x0 x1 x2 x3 x4 x5 x6 x7 x8 x9 hsB hsY; obtain ⟨x0, x1, x2, x3, x4, x5, x6, x7, x8, x9⟩ := HX2.out; dsimp only at x0 x1 x2 x3 x4 x5 x6 x7 x8 x9)
    | (go_at_call 34; (with_reducible refine (HLK.out _ (HU.out.keep HB2.out) (HI.out.keep HB2.out) (HR.out.keep HB2.out)).mono ?_); rintro e wD ⟨q2, n2, d2, vals2, L2, rfl, hl2, hn2, hs2, ho2, hr2, hm2, hq2, hb⟩; have hsC := World.block_lt_of_cell? _ _ HX2.out.c0; have hsY := World.block_lt_of_cell? _ _ HY2.out.c0; dsimp only at hsC hsY; have HBD := Lib.hid hb; have HB3 := Lib.hid (HB2.out.trans (hb.mono HB2.out.size)); have HX3 := Lib.hid (HX2.out.keep hb hsC); have HY3 := Lib.hid (HY2.out.keep hb hsY); have HL2 := Lib.hid hl2; have HS2 := Lib.hid hs2; have HO2 := Lib.hid ho2; have HRA2 := Lib.hid hr2; have HSM := Lib.hid (same_maps2 (.slice q1 n1 d1) (.slice q2 n2 d2) L1 wD (HM1.out.keep hb) (by rw [HQ1.out.uniq hq2]; exact hm2)); clear hb hl2 hs2 ho2 hr2 hm2 hq2 x0 x1 x2 x3 x4 x5 x6 x7 x8 x9 hsC hsY)
    | (go_at_call 24; (with_reducible refine HSM.out.mono ?_); rintro e wE ⟨rfl, hb⟩; have hsD := World.block_lt_of_cell? _ _ HX3.out.c0; have hsY := World.block_lt_of_cell? _ _ HY3.out.c0; dsimp only at hsD hsY; have HBE := Lib.hid hb; have HB4 := Lib.hid (HB3.out.trans (hb.mono HB3.out.size)); obtain ⟨x0, x1, x2, x3, x4, x5, x6, x7, x8, x9⟩ := HX3.out.keep hb hsD; obtain ⟨y0, y1, y2, y3, y4, y5, y6, y7, y8, y9⟩ := HY3.out.keep hb hsY; dsimp only at x0 x1 x2 x3 x4 x5 x6 x7 x8 x9 y0 y1 y2 y3 y4 y5 y6 y7 y8 y9; have hk14 := (HBC.out.trans (HBD.out.mono HBC.out.size)).trans (hb.mono (HBC.out.trans (HBD.out.mono HBC.out.size)).size); have HSF := Lib.hid (samef_any name' frees' gen' bound' np np' nn' nc nc' cp cp' cn' cc cc' F _ _ _ _ nx cx wE (HI.out.keep HB4.out) (HI1.out.keep hk14) (HR.out.keep HB4.out) (HR1.out.keep hk14) (HN.out.keep HB4.out) (HN1.out.keep hk14) (HC.out.keep HB4.out) (HC1.out.keep hk14) hnn hnr); unfold funcV at HSF; dsimp only at HSF; clear hb hsD hsY hk14)
    | (go_at_call 31; (with_reducible refine HSF.out.mono ?_); rintro e wF ⟨rfl, hb⟩; have HBF := Lib.hid hb; have HB5 := Lib.hid (HB4.out.trans (hb.mono HB4.out.size)); have hDF := HBE.out.trans (hb.mono HBE.out.size); have HDF := Lib.hid hDF; have HCFB := Lib.hid (HBD.out.trans (hDF.mono HBD.out.size)); clear hDF hb x0 x1 x2 x3 x4 x5 x6 x7 x8 x9 y0 y1 y2 y3 y4 y5 y6 y7 y8 y9)
    | (at_builtin; refine wpList_app rfl (.tmp 37) (.tmp 38) rfl Tryd.underlying43 infoWds rfl rfl (v := .slice (some ⟨wF.heap.size, 0, none⟩) 0 0) (base := wF.heap.size) (n := 0) (m := n1) (xs := []) (news := vals1) (ownS_fresh (Nat.le_refl _) rfl) rfl (HS1.out.keep (HCFB.out.alloc HCFB.out.size _)) HO1.out (by unfold maxLen; omega) (by omega) (by simp) ?_; intro v7 w7 hap7; simp only [Nat.zero_add, List.nil_append] at hap7; obtain ⟨p7, c7, rfl, _⟩ := ownS_form hap7.own; have HB7 := Lib.hid (((Below.refl wF.heap.size wF).alloc (Nat.le_refl _) _).grown hap7.grown (by simp) (fun g hg => (by simp [Value.ownBlock] at hg; omega))); have HW7 := Lib.hid hap7.own; clear hap7)
    | (at_builtin; refine wpList_app rfl (.tmp 39) (.tmp 40) rfl Tryd.underlying43 infoWds rfl rfl (v := .slice p7 n1 c7) (base := wF.heap.size) (n := n1) (m := n2) (xs := vals1) (news := vals2) HW7.out rfl (HS2.out.keep (HDF.out.trans (HB7.out.mono HDF.out.size))) HO2.out (by unfold maxLen; omega) (by omega) HB7.out.size ?_; intro v8 w8 hap8; obtain ⟨p8, c8, rfl, _⟩ := ownS_form hap8.own; have hb8 := HB7.out.grown hap8.grown HB7.out.size (fun g hg => (World.ownsRow.lt HW7.out g hg).1); have hlen : (vals1 ++ vals2).length = n1 + n2 := (by rw [List.length_append, HL1.out, HL2.out]); have hra := (((HRA1.out.low HB1.out.size).append (Nat.le_refl _) HBD.out HRA2.out HB2.out.size).keep (HDF.out.trans (hb8.mono HDF.out.size))); have how := hap8.own; rw [← hlen] at how; obtain ⟨tg, ns, hA⟩ := hra.ahyp (Nat.le_trans HB5.out.size hb8.size) (by omega) how (fun i b o hi hr => (by have h2 := (((HRA1.out.low HB1.out.size).append (Nat.le_refl _) HBD.out HRA2.out HB2.out.size).row i hi).rng hr; have h3 := HDF.out.size; omega)); have hap := apart_any p8 c8 (vals1 ++ vals2) ns tg w.heap.size w8 hA; rw [hlen] at hap; have HAP := Lib.hid hap; have HB8 := Lib.hid (HB5.out.trans (hb8.mono HB5.out.size)); clear hap8 hb8 hra how hA hap)
    | (go_at_call 32; (with_reducible refine HAP.out.mono ?_); rintro e w9 ⟨rfl, hb⟩; have HB9 := Lib.hid (HB8.out.trans hb); clear hb)
    | fail)
  go_ret
  exact ⟨rfl, HB9.out⟩
end Go.Proofs.YtnniohimbmnapaaDoor
