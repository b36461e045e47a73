/- Layer 10: the ways from an instruction, handed out one by one. -/
import Derived.Test.YtnniohimbmnapaaDoorFHand
import Derived.Test.YtnniohimbmnapaaDoorKh
import Derived.OwnWalkIn
import Derived.TacticsInMore
import Derived.LoopIn
namespace Go.Proofs.YtnniohimbmnapaaDoor
open Go Go.ChangeShapes Go.WideShapes Go.RowKit
set_option linter.unusedVariables false
set_option linter.unusedSimpArgs false
attribute [local go_sem] Oper.semAt_some
def goeL (F : FuncD) (x : Nat) : List Int := goesD (F.ins.getD x insZ) x
def wrL (F : FuncD) (x k : Nat) : List Int := if k = 0 ∧ (F.ins.getD x insZ).op ≠ 18 then writesD (F.ins.getD x insZ) else []
def hanL (F : FuncD) (x : Nat) : List (Int × List Int) := if 0 ≤ handlerI F x then [((F.regions.getD (handlerI F x).toNat regZ).to, [(F.regions.getD (handlerI F x).toNat regZ).d])] else []
def waysD (F : FuncD) (x : Nat) : List (Int × List Int) := ((List.range (goeL F x).length).map fun k => ((goeL F x).getD k 0, wrL F x k)) ++ hanL F x
def wayZ : Int × List Int := (0, [])
theorem ways_go {F : FuncD} {x k : Nat} (h : k < (goeL F x).length) : (waysD F x).getD k wayZ = ((goeL F x).getD k 0, wrL F x k) := by
  unfold waysD
  rw [List.getD_eq_getElem?_getD, List.getElem?_append_left (by simpa using h)]
  simp [h]
theorem ways_len (F : FuncD) (x : Nat) : (waysD F x).length = (goeL F x).length + (hanL F x).length := by simp [waysD]
theorem ways_han {F : FuncD} {x : Nat} (h : 0 ≤ handlerI F x) : (waysD F x).length = (goeL F x).length + 1 ∧ (waysD F x).getD (goeL F x).length wayZ = ((F.regions.getD (handlerI F x).toNat regZ).to, [(F.regions.getD (handlerI F x).toNat regZ).d]) := by
  unfold waysD hanL
  rw [if_pos h]
  refine ⟨by simp, ?_⟩
  rw [List.getD_eq_getElem?_getD, List.getElem?_append_right (by simp)]
  simp
theorem ways_nohan {F : FuncD} {x : Nat} (h : ¬ 0 ≤ handlerI F x) : (waysD F x).length = (goeL F x).length := by
  rw [ways_len]; unfold hanL; rw [if_neg h]; simp
theorem handler_lt {F : FuncD} {x : Int} (h : 0 ≤ handlerI F x) : ∃ n : Nat, handlerI F x = n ∧ n < F.regions.length := by
  unfold handlerI at h ⊢
  split at h
  · rename_i hc
    rw [if_pos hc]
    unfold firstReg at h ⊢
    cases hf : F.regions.findIdx? (regB x) with
    | none => rw [hf] at h; simp at h
    | some n => exact ⟨n, rfl, (List.findIdx?_eq_some_iff_getElem.1 hf).1⟩
  · simp at h
/-- The k-th round is handed the k-th way; its list is memory that lies at S or above. -/
def ItW (F : FuncD) (x S : Nat) (k : Nat) (A : World) (args : Array Value) : Prop := ∃ u, args = #[.int .i64 ((waysD F x).getD k wayZ).1, u] ∧ OI A S u ((waysD F x).getD k wayZ).2
theorem Box10.block {w w' : World} {g : Nat} {r : RestV} {F : FuncD} {iv rv : Value} (h : Box10 w g r F iv rv) (hb : w'.heap[g]? = w.heap[g]?) : Box10 w' g r F iv rv :=
  ⟨(World.cell?_of_block (a := ⟨g, 0, none⟩) hb).trans h.c0, (World.cell?_of_block (a := ⟨g, 1, none⟩) hb).trans h.c1, (World.cell?_of_block (a := ⟨g, 2, none⟩) hb).trans h.c2, (World.cell?_of_block (a := ⟨g, 3, none⟩) hb).trans h.c3, (World.cell?_of_block (a := ⟨g, 4, none⟩) hb).trans h.c4,
   (World.cell?_of_block (a := ⟨g, 5, none⟩) hb).trans h.c5, (World.cell?_of_block (a := ⟨g, 6, none⟩) hb).trans h.c6, (World.cell?_of_block (a := ⟨g, 7, none⟩) hb).trans h.c7, (World.cell?_of_block (a := ⟨g, 8, none⟩) hb).trans h.c8, (World.cell?_of_block (a := ⟨g, 9, none⟩) hb).trans h.c9⟩
theorem Box7.block {w w' : World} {g : Nat} {i : InsD} {lv : Value} (h : Box7 w g i lv) (hb : w'.heap[g]? = w.heap[g]?) : Box7 w' g i lv :=
  ⟨(World.cell?_of_block (a := ⟨g, 0, none⟩) hb).trans h.c0, (World.cell?_of_block (a := ⟨g, 1, none⟩) hb).trans h.c1, (World.cell?_of_block (a := ⟨g, 2, none⟩) hb).trans h.c2, (World.cell?_of_block (a := ⟨g, 3, none⟩) hb).trans h.c3, (World.cell?_of_block (a := ⟨g, 4, none⟩) hb).trans h.c4,
   (World.cell?_of_block (a := ⟨g, 5, none⟩) hb).trans h.c5, (World.cell?_of_block (a := ⟨g, 6, none⟩) hb).trans h.c6⟩
theorem Box10.lt {w : World} {g : Nat} {r : RestV} {F : FuncD} {iv rv : Value} (h : Box10 w g r F iv rv) : g < w.heap.size := World.block_lt_of_cell? w _ h.c0
theorem OW.block {k : IntKind} {T : TypeId} {A B : World} {S : Nat} {v : Value} {ws : List Int} (h : OW k T A S v ws) (hb : ∀ g, v.ownBlock = some g → B.heap[g]? = A.heap[g]?) : OW k T B S v ws := by
  obtain ⟨h1, h2⟩ := h
  refine ⟨h1, ?_⟩
  rcases h2 with h2 | ⟨g, cap, cur, rfl, hg, r, h3⟩
  · exact .inl h2
  · exact .inr ⟨g, cap, cur, rfl, hg, (hb g rfl).trans r, h3⟩
theorem OW.lt {k : IntKind} {T : TypeId} {A : World} {S : Nat} {v : Value} {ws : List Int} (h : OW k T A S v ws) {g : Nat} (hg : v.ownBlock = some g) : S ≤ g ∧ g < A.heap.size := by
  obtain ⟨h1, h2⟩ := h
  rcases h2 with ⟨rfl, _⟩ | ⟨b, cap, cur, rfl, hb, r, h3⟩
  · cases hg
  · simp only [Value.ownBlock, Option.some.injEq] at hg
    subst hg
    exact ⟨hb, (Array.getElem?_eq_some_iff.1 r).1⟩
theorem OW.kw {k : IntKind} {T : TypeId} {A B : World} {S : Nat} {v : Value} {ws : List Int} {K : Nat → Prop} (h : OW k T A S v ws) (hk : Kw K A B) (hK : ∀ g, v.ownBlock = some g → K g) : OW k T B S v ws :=
  h.block fun g hg => hk.block g (hK g hg) (h.lt hg).2
set_option maxRecDepth 100000 in
set_option maxHeartbeats 4000000 in
theorem each_any (r : RestV) (F : FuncD) (iv rv : Value) (x : Int) (w : World) :
    Calls Tryd.prog 49 #[funcV r F iv rv, .int .i64 x] w fun e w' => e = .returned (.func (.func 58) #[] #[.pointer (some ⟨w.heap.size, 0, none⟩), .pointer (some ⟨w.heap.size + 1, 0, none⟩)]) ∧
      w' = (w.alloc (.cells #[.string r.name, .int .i64 F.params, .int .i64 F.regs, .int .i64 r.frees, .bool r.gen, .int .i64 r.bound, .slice r.np r.nn r.nc, .slice r.cp r.cn r.cc, iv, rv] 27)).alloc (.cells #[.int .i64 x] 3) := by
  unfold funcV
  go_enter Tryd.func49, Tryd.ntmps49
  go_wp2
  go_ret
  exact ⟨rfl, rfl⟩
theorem own_one {w : World} {T : TypeId} {k : IntKind} {d : Int} {b B : Nat} (hb : b = w.heap.size) (hB : B ≤ w.heap.size) : OW k T (w.alloc (.cells #[.int k d] T)) B (.slice (some ⟨b, 0, none⟩) 1 1) [d] := by
  subst hb
  exact ⟨rfl, .inr ⟨w.heap.size, 1, #[.int k d], rfl, hB, heap_alloc_new w _, Nat.le_refl _, by unfold maxLen; omega, by simp, by simp⟩⟩
set_option maxRecDepth 100000 in
set_option maxHeartbeats 8000000 in
theorem each_gives (r : RestV) (F : FuncD) (iv rv : Value) (x : Nat) (w0 W : World) (bf ba : Nat) (K : Nat → Prop) (hU : Us w0) (hI : Ii w0 iv F.ins) (hR : Rg w0 rv F.regions) (hx : x < F.ins.length)
    (hb0 : Below w0.heap.size w0 W) (hK : ∀ b, b < w0.heap.size → K b) (hKf : K bf) (hKa : K ba) (hbf : Box10 W bf r F iv rv) (hba : W.cell? ⟨ba, 0, none⟩ = some (.int .i64 x)) :
    GivesE Tryd.prog 58 #[.pointer (some ⟨bf, 0, none⟩), .pointer (some ⟨ba, 0, none⟩)] (waysD F x).length (ItW F x W.heap.size) K W := by
  intro l J hJ hstep hE0
  have HHA := handler_any r F iv rv x
  unfold funcV at HHA
  have HHAN := Lib.hid HHA
  clear HHA
  have HII := Lib.hid hI
  obtain ⟨p, c, rfl, hc, hm, hp⟩ := ii_form hI
  obtain ⟨b, off, rfl, hcell⟩ := hp (by omega)
  obtain ⟨lv, hat⟩ := hcell x hx
  have HAT := Lib.hid hat
  obtain ⟨e0, e1, e2, e3, e4, e5, e6, e7, hll⟩ := hat.keep hb0
  have HE := Lib.hid (show goeL F x = goesD (F.ins.getD x insZ) x from rfl)
  have HWR := Lib.hid (show ∀ k, wrL F x k = if k = 0 ∧ (F.ins.getD x insZ).op ≠ 18 then writesD (F.ins.getD x insZ) else [] from fun _ => rfl)
  have HWG := Lib.hid (show ∀ k, k < (goeL F x).length → (waysD F x).getD k wayZ = ((goeL F x).getD k 0, wrL F x k) from fun k hk => ways_go hk)
  have HLE := Lib.hid (ways_len F x)
  generalize hi : F.ins.getD x insZ = i at e0 e1 e2 e3 e4 e5 e6 e7 hll HE HAT HWR
  have HI := Lib.hid hi
  have hxz : (x : Int) < (F.ins.length : Int) := by omega
  obtain ⟨p7, c7, rfl, hy1, hy2, hy3⟩ := ri_form e7
  have HX := Lib.hid hbf
  have hc8 := hbf.c8
  have HB0 := Lib.hid hb0
  have HGE := goes_any i (.slice p7 i.l.length c7) x (by omega) (by omega)
  have HWE := writes_any i (.slice p7 i.l.length c7)
  unfold insV at HGE HWE
  have HGF := Lib.hid HGE
  have HWF := Lib.hid HWE
  have HRI := Lib.hid e7
  have HU0 := Lib.hid hU
  have HUW := Lib.hid (hU.keep hb0)
  have hba1 := alloc_cell hba (.cells #[.int .i64 i.op, .int .i64 i.d, .int .i64 i.a, .int .i64 i.b, .int .i64 i.t, .int .i64 i.k, .slice p7 i.l.length c7] 50)
  have HBA := Lib.hid hba
  have HJ := Lib.hid hJ
  have HST := Lib.hid hstep
  have HE0 := Lib.hid hE0
  have HH := Lib.hid hK
  have HRG := Lib.hid hR
  clear hat hi hbf hb0 hp hcell hJ hstep hE0 hK e7 hy1 hy2 hy3 HGE HWE hU hI hR
  refine (callsIn_wide (n := 0)).2 ?_
  go_enter Tryd.func58, Tryd.ntmps58
  go_wp2_with (first | (go_at_call 44; (with_reducible refine (HGF.out _ (HUW.out.keep (by ((repeat' (first | with_reducible assumption | with_reducible exact Below.refl _ _ | with_reducible refine Below.drew ?_ | with_reducible refine Below.alloc ?_ (by first | omega | (simp; omega) | (simp; done) | fail) _ | with_reducible refine Below.setCell ?_ (by first | omega | (simp; omega) | (simp; done) | fail) _ | fail)); (first | done | fail)))) (HRI.out.keep (by ((repeat' (first | with_reducible assumption | with_reducible exact Below.refl _ _ | with_reducible refine Below.drew ?_ | with_reducible refine Below.alloc ?_ (by first | omega | (simp; omega) | (simp; done) | fail) _ | with_reducible refine Below.setCell ?_ (by first | omega | (simp; omega) | (simp; done) | fail) _ | fail)); (first | done | fail)))) hll).mono ?_); rintro e wG ⟨uG, rfl, hu, hbG⟩; have HG := Lib.hid hu; have HBG := Lib.hid hbG; obtain ⟨pG, cG, rfl, hg1, hg2, hg3⟩ := ri_form (Mine.ri (OW.mine HG.out) (Nat.le_trans (goesD_len i x) (by omega))); have HG3 := Lib.hid hg3; clear hu hbG hg3) | fail)
  have HB7 := Lib.hid ((Box7.new W i (.slice p7 i.l.length c7) 50).keep HBG.out (by simp))
  have hsz : W.heap.size + 1 ≤ wG.heap.size := by have := HBG.out.size; simpa using this
  have HBW := Lib.hid (((Below.refl W.heap.size W).alloc (Nat.le_refl _) (.cells #[.int .i64 i.op, .int .i64 i.d, .int .i64 i.a, .int .i64 i.b, .int .i64 i.t, .int .i64 i.k, .slice p7 i.l.length c7] 50)).trans (HBG.out.mono (by simp)))
  have HBGW := Lib.hid ((HB0.out.trans (HBW.out.mono HB0.out.size)))
  have HBK := Lib.hid (show ∀ A, Kw (fun b => K b ∨ W.heap.size ≤ b ∧ b < wG.heap.size) wG A → Below w0.heap.size w0 A from fun A h => HBGW.out.trans (h.below HBGW.out.size fun b hb => .inl (HH.out b hb)))
  clear hba1
  refine (wpIn_wide (n := 0)).1 ?_
  gi_loopw [18] (fun s wr => ∃ k : Nat, s = .int .i64 k ∧ k ≤ (goesD i x).length ∧ J wG.heap.size k wr ∧ Kw (fun b => K b ∨ W.heap.size ≤ b ∧ b < wG.heap.size) wG wr) (fun s _ => (goesD i x).length - (intOf s).toNat)
  case atStart =>
    exact ⟨0, rfl, Nat.zero_le _, HJ.out _ _ _ _ (by omega) (HE0.out wG.heap.size (by omega)) (Kw.all HBW.out), Kw.refl _ _⟩
  case round =>
    obtain ⟨k, rfl, hk, hJk, hkw⟩ := hrel
    have HJK := Lib.hid hJk
    have HKW := Lib.hid hkw
    have HBR := Lib.hid (HBK.out wr hkw)
    have hszr := hkw.size
    have hb7 := HB7.out.block (hkw.block W.heap.size (.inr ⟨Nat.le_refl _, by omega⟩) (by omega))
    obtain ⟨f0, f1, f2, f3, f4, f5, f6⟩ := hb7
    have HIT := Lib.hid (show ∀ A u, OI A W.heap.size u ((waysD F x).getD k wayZ).2 → ItW F x W.heap.size k A #[.int .i64 ((waysD F x).getD k wayZ).1, u] from fun A u h => ⟨u, rfl, h⟩)
    clear hJk hkw
    by_cases hlt : k < (goesD i x).length
    · obtain ⟨bG, oG, rfl, hcG⟩ := HG3.out (by omega)
      have hgl := HG.out.lt (g := bG) rfl
      have hcell := (World.cell?_of_block (a := ⟨bG, oG + k, none⟩) (HKW.out.block bG (.inr ⟨by have := hgl.1; simp at this; omega, hgl.2⟩) hgl.2)).trans (hcG k hlt)
      have hltz : (k : Int) < ((goesD i x).length : Int) := by omega
      have hg := HWG.out k (by rw [HE.out]; exact hlt)
      rw [HE.out] at hg
      rw [hg] at HIT
      dsimp only at HIT
      have HKL := Lib.hid (show k < (waysD F x).length by rw [HLE.out, HE.out]; omega)
      obtain ⟨to, hto⟩ : ∃ to, (goesD i x).getD k 0 = to := ⟨_, rfl⟩
      rw [hto] at HIT hcell
      have HWK := Lib.hid (HWR.out k)
      have HRW := Lib.hid ((HAT.out.keep HBR.out).2.2.2.2.2.2.2.1)
      have HUR := Lib.hid (HU0.out.keep HBR.out)
      clear hcG hg hto hgl
      by_cases hk0 : k = 0
      · have hkb : ((k : Int) == 0) = true := by simp [hk0]
        by_cases hop : i.op = 18
        · have hob : (i.op != 18) = false := by simp [hop]
          have HW0 := Lib.hid (show wrL F x k = [] by rw [HWK.out, if_neg (fun h => h.2 hop)])
          clear hop hk0
          obtain ⟨fn, tmps, assign, body, hy, hR⟩ := HST.out wG.heap.size k wr _ (by omega) (by omega) HKL.out HJK.out (HIT.out wr (.slice none 0 0) (by rw [HW0.out]; exact OW.nil _ _))
          gi_wp2
          refine ⟨rfl, hR.mono ?_⟩
          rintro e W3 ⟨rfl, hJ3, hk3⟩
          have HJ3 := Lib.hid hJ3
          have HK3 := Lib.hid hk3
          clear hJ3 hk3
          gi_wp2
          go_roundw
          case rel => exact ⟨k + 1, by go_num, by omega, HJ3.out, HKW.out.trans (HK3.out.mono fun b h _ => h)⟩
          case measure => simp [intOf]; omega
        · have hob : (i.op != 18) = true := by simp [hop]
          have HW0 := Lib.hid (show wrL F x k = writesD i by rw [HWK.out, if_pos ⟨hk0, hop⟩])
          clear hop hk0
          gi_wp2_with (first | (refine ⟨trivial, rfl, ?_⟩; gi_at_call 43; (with_reducible refine CallsIn.mono (callsIn_wide.2 (HWF.out wr HUR.out HRW.out hll)) ?_); rintro e wW ⟨uW, rfl, hu, hbW⟩; have HOW := Lib.hid (show OI wW W.heap.size uW (wrL F x k) by rw [HW0.out]; exact OW.low hu (by omega)); have HBWW := Lib.hid hbW; clear hu hbW; obtain ⟨fn, tmps, assign, body, hy, hR⟩ := HST.out wG.heap.size k wW _ (by omega) (by have := HBWW.out.size; omega) HKL.out (HJ.out _ _ _ _ (by omega) HJK.out (Kw.all HBWW.out)) (HIT.out wW uW HOW.out)) | fail)
          refine ⟨rfl, hR.mono ?_⟩
          rintro e W3 ⟨rfl, hJ3, hk3⟩
          have HJ3 := Lib.hid hJ3
          have HK3 := Lib.hid hk3
          clear hJ3 hk3
          gi_wp2
          go_roundw
          case rel => exact ⟨k + 1, by go_num, by omega, HJ3.out, (HKW.out.trans (Kw.all HBWW.out)).trans (HK3.out.mono fun b h _ => h)⟩
          case measure => simp [intOf]; omega
      · have hkb : ((k : Int) == 0) = false := by rw [beq_eq_false_iff_ne]; omega
        have HW0 := Lib.hid (show wrL F x k = [] by rw [HWK.out, if_neg (fun h => hk0 h.1)])
        obtain ⟨fn, tmps, assign, body, hy, hR⟩ := HST.out wG.heap.size k wr _ (by omega) (by omega) HKL.out HJK.out (HIT.out wr (.slice none 0 0) (by rw [HW0.out]; exact OW.nil _ _))
        gi_wp2
        refine ⟨rfl, hR.mono ?_⟩
        rintro e W3 ⟨rfl, hJ3, hk3⟩
        have HJ3 := Lib.hid hJ3
        have HK3 := Lib.hid hk3
        clear hJ3 hk3
        gi_wp2
        go_roundw
        case rel => exact ⟨k + 1, by go_num, by omega, HJ3.out, HKW.out.trans (HK3.out.mono fun b h _ => h)⟩
        case measure => simp [intOf]; omega
    · have hke : k = (goesD i x).length := by omega
      have hltz : ¬ (k : Int) < ((goesD i x).length : Int) := by omega
      have HKE := Lib.hid hke
      clear hke
      have hbx := HX.out.block (HKW.out.block bf (.inl hKf) (by have := HX.out.lt; omega) |>.trans (HBW.out.block bf HX.out.lt))
      obtain ⟨q0, q1, q2, q3, q4, q5, q6, q7, q8, q9⟩ := hbx
      have hbl := World.block_lt_of_cell? W _ HBA.out
      have hbc := (World.cell?_of_block (a := ⟨ba, 0, none⟩) ((HKW.out.block ba (.inl hKa) (by dsimp only at hbl; omega)).trans (HBW.out.block ba hbl))).trans HBA.out
      obtain ⟨p2, c2, rfl, hr1, hr2, hr3⟩ := rg_form HRG.out
      have HR3 := Lib.hid hr3
      have HHR := Lib.hid (HHAN.out wr (HU0.out.keep HBR.out) (HII.out.keep HBR.out) (HRG.out.keep HBR.out))
      have HHL := Lib.hid (@handler_lt F x)
      have HWH := Lib.hid (@ways_han F x)
      have HWN := Lib.hid (@ways_nohan F x)
      clear hr3 hbl
      generalize hhe : handlerI F x = hh at HHR HHL HWH HWN
      have HHE := Lib.hid hhe
      clear hhe
      by_cases h0 : 0 ≤ hh
      · obtain ⟨h, rfl, hhl⟩ := HHL.out h0
        obtain ⟨b2, o2, rfl, hcr⟩ := HR3.out (by omega)
        have HCR := Lib.hid ((hcr h hhl).keep HBR.out)
        have hb2 : b2 < w0.heap.size := World.block_lt_of_cell? w0 _ (hcr h hhl).1
        have hhz : (h : Int) < (F.regions.length : Int) := by omega
        have HWH := Lib.hid (HWH.out h0)
        rw [Int.toNat_natCast] at HWH
        generalize F.regions.getD h regZ = rg at HCR HWH
        clear hcr HWN
        gi_wp2
        go_wp2_with (first | (go_at_call 17; (with_reducible refine HHR.out.mono ?_); rintro e wH ⟨rfl, hbH⟩; have HBH := Lib.hid hbH; clear hbH) | fail)
        have hszh := HBH.out.size
        have hlh := World.block_lt_of_cell? wr _ q9
        have HSS := Lib.hid (show wH.drew.cell? ⟨bf, 9, none⟩ = some (.slice (some ⟨b2, o2, none⟩) F.regions.length c2) ∧ wH.drew.cell? ⟨b2, o2 + h * 4 + 2, none⟩ = some (.int .i64 rg.to) ∧ wH.drew.cell? ⟨b2, o2 + h * 4 + 3, none⟩ = some (.int .i64 rg.d) from ⟨below_cell HBH.out q9, below_cell HBH.out HCR.out.2.2.1, below_cell HBH.out HCR.out.2.2.2⟩)
        refine (wpIn_wide (n := 0)).1 ?_
        refine wpIn_region_anyS (S := fun A => A.cell? ⟨bf, 9, none⟩ = some (.slice (some ⟨b2, o2, none⟩) F.regions.length c2) ∧ A.cell? ⟨b2, o2 + h * 4 + 2, none⟩ = some (.int .i64 rg.to) ∧ A.cell? ⟨b2, o2 + h * 4 + 3, none⟩ = some (.int .i64 rg.d)) (by kernel_rfl) HSS.out ?_
        intro _
        refine anyS_take (i := 0) (v := ?_) rfl (by kernel_rfl) (by kernel_rfl) (by kernel_rfl) (fun _ _ _ h => h) (Or.inl ⟨by rfl, ?_⟩) (by assumption) ?_
        rotate_left 1
        · intro w hSw
          (try dsimp only at hSw)
          go_simp
          (try with_reducible rfl)
        (try simp only [List.getElem_toArray, List.getElem_cons_succ, List.getElem_cons_zero, Act.put, List.setIfInBounds_toArray, List.set_cons_zero, List.set_cons_succ])
        refine anyS_take (i := 1) (v := ?_) rfl (by kernel_rfl) (by kernel_rfl) (by kernel_rfl) (fun _ _ _ h => h) (Or.inl ⟨by rfl, ?_⟩) (by assumption) ?_
        rotate_left 1
        · intro w hSw
          (try dsimp only at hSw)
          go_simp
          (try with_reducible rfl)
        (try simp only [List.getElem_toArray, List.getElem_cons_succ, List.getElem_cons_zero, Act.put, List.setIfInBounds_toArray, List.set_cons_zero, List.set_cons_succ])
        refine anyS_take (i := 2) (v := ?_) rfl (by kernel_rfl) (by kernel_rfl) (by kernel_rfl) (fun _ _ _ h => h) (Or.inl ⟨by rfl, ?_⟩) (by assumption) ?_
        rotate_left 1
        · intro w hSw
          (try dsimp only at hSw)
          go_simp
          (try with_reducible rfl)
        (try simp only [List.getElem_toArray, List.getElem_cons_succ, List.getElem_cons_zero, Act.put, List.setIfInBounds_toArray, List.set_cons_zero, List.set_cons_succ])
        refine anyS_take (i := 3) (v := ?_) rfl (by kernel_rfl) (by kernel_rfl) (by kernel_rfl) (fun _ _ _ h => h) (Or.inl ⟨by rfl, ?_⟩) (by assumption) ?_
        rotate_left 1
        · intro w hSw
          (try dsimp only at hSw)
          go_simp
          (try with_reducible rfl)
        (try simp only [List.getElem_toArray, List.getElem_cons_succ, List.getElem_cons_zero, Act.put, List.setIfInBounds_toArray, List.set_cons_zero, List.set_cons_succ])
        refine anyS_take (i := 4) (v := ?_) rfl (by kernel_rfl) (by kernel_rfl) (by kernel_rfl) (fun _ _ _ h => h) (Or.inl ⟨by rfl, ?_⟩) (by assumption) ?_
        rotate_left 1
        · intro w hSw
          (try dsimp only at hSw)
          go_simp
          (try with_reducible rfl)
        (try simp only [List.getElem_toArray, List.getElem_cons_succ, List.getElem_cons_zero, Act.put, List.setIfInBounds_toArray, List.set_cons_zero, List.set_cons_succ])
        refine anyS_take (i := 5) (v := ?_) rfl (by kernel_rfl) (by kernel_rfl) (by kernel_rfl) (fun _ _ _ h => h) (Or.inl ⟨by rfl, ?_⟩) (by assumption) ?_
        rotate_left 1
        · intro w hSw
          (try dsimp only at hSw)
          go_simp
          (try with_reducible rfl)
        (try simp only [List.getElem_toArray, List.getElem_cons_succ, List.getElem_cons_zero, Act.put, List.setIfInBounds_toArray, List.set_cons_zero, List.set_cons_succ])
        refine anyS_take (i := 6) (v := ?_) rfl (by kernel_rfl) (by kernel_rfl) (by kernel_rfl) (fun _ _ _ h => h) (Or.inl ⟨by rfl, ?_⟩) (by assumption) ?_
        rotate_left 1
        · intro w hSw
          (try dsimp only at hSw)
          go_simp
          (try with_reducible rfl)
        (try simp only [List.getElem_toArray, List.getElem_cons_succ, List.getElem_cons_zero, Act.put, List.setIfInBounds_toArray, List.set_cons_zero, List.set_cons_succ])
        refine anyS_take (i := 7) (v := ?_) rfl (by kernel_rfl) (by kernel_rfl) (by kernel_rfl) (fun _ _ _ h => h) (Or.inl ⟨by rfl, ?_⟩) (by assumption) ?_
        rotate_left 1
        · intro w hSw
          (try dsimp only at hSw)
          go_simp
          (try with_reducible rfl)
        (try simp only [List.getElem_toArray, List.getElem_cons_succ, List.getElem_cons_zero, Act.put, List.setIfInBounds_toArray, List.set_cons_zero, List.set_cons_succ])
        refine anyS_take (i := 8) (v := ?_) rfl (by kernel_rfl) (by kernel_rfl) (by kernel_rfl) (fun _ _ _ h => h) (Or.inl ⟨by rfl, ?_⟩) (by assumption) ?_
        rotate_left 1
        · intro w hSw
          (try dsimp only at hSw)
          go_simp
          (try with_reducible rfl)
        (try simp only [List.getElem_toArray, List.getElem_cons_succ, List.getElem_cons_zero, Act.put, List.setIfInBounds_toArray, List.set_cons_zero, List.set_cons_succ])
        refine anyS_take (i := 9) (v := ?_) rfl (by kernel_rfl) (by kernel_rfl) (by kernel_rfl) (fun _ _ _ h => h) (Or.inl ⟨by rfl, ?_⟩) (by assumption) ?_
        rotate_left 1
        · intro w hSw
          (try dsimp only at hSw)
          go_simp
          (try with_reducible rfl)
        (try simp only [List.getElem_toArray, List.getElem_cons_succ, List.getElem_cons_zero, Act.put, List.setIfInBounds_toArray, List.set_cons_zero, List.set_cons_succ])
        refine anyS_take (i := 10) (v := ?_) rfl (by kernel_rfl) (by kernel_rfl) (by kernel_rfl) (fun _ _ _ h => h) (Or.inl ⟨by rfl, ?_⟩) (by assumption) ?_
        rotate_left 1
        · intro w hSw
          (try dsimp only at hSw)
          go_simp
          (try with_reducible rfl)
        (try simp only [List.getElem_toArray, List.getElem_cons_succ, List.getElem_cons_zero, Act.put, List.setIfInBounds_toArray, List.set_cons_zero, List.set_cons_succ])
        refine anyS_take (i := 11) (v := ?_) rfl (by kernel_rfl) (by kernel_rfl) (by kernel_rfl) (fun _ _ _ h => h) (Or.inl ⟨by rfl, ?_⟩) (by assumption) ?_
        rotate_left 1
        · intro w hSw
          (try dsimp only at hSw)
          go_simp
          (try with_reducible rfl)
        (try simp only [List.getElem_toArray, List.getElem_cons_succ, List.getElem_cons_zero, Act.put, List.setIfInBounds_toArray, List.set_cons_zero, List.set_cons_succ])
        refine anyS_take (i := 12) (v := ?_) rfl (by kernel_rfl) (by kernel_rfl) (by kernel_rfl) (fun _ _ _ h => h) (Or.inl ⟨by rfl, ?_⟩) (by assumption) ?_
        rotate_left 1
        · intro w hSw
          (try dsimp only at hSw)
          go_simp
          (try with_reducible rfl)
        (try simp only [List.getElem_toArray, List.getElem_cons_succ, List.getElem_cons_zero, Act.put, List.setIfInBounds_toArray, List.set_cons_zero, List.set_cons_succ])
        refine anyS_one (i := 13) rfl rfl (by kernel_rfl) (fun K hK => ?_)
        go_simp
        refine hK.out _ _ ⟨alloc_cell HSS.out.1 _, alloc_cell HSS.out.2.1 _, alloc_cell HSS.out.2.2 _⟩ (fun hHeld => ?_)
        clear hK K
        (try simp only [List.getElem_toArray, List.getElem_cons_succ, List.getElem_cons_zero, Act.put, List.setIfInBounds_toArray, List.set_cons_zero, List.set_cons_succ])
        refine anyS_one (i := 14) rfl rfl (by kernel_rfl) (fun KK hK => ?_)
        have HWK : (waysD F x).length = k + 1 ∧ (waysD F x).getD k wayZ = (rg.to, [rg.d]) := by rw [HKE.out, ← HE.out]; exact HWH.out
        have HITK := HIT.out
        rw [HWK.2] at HITK
        dsimp only at HITK
        have HWL := Lib.hid HWK.1
        obtain ⟨fn, tmps, assign, body, hy, hR⟩ := HST.out wG.heap.size k ((wH.alloc (.cells #[.int .i64 rg.d] 3)).drew) _ (by omega) (by simp; omega) (by rw [HWL.out]; omega) (HJ.out _ _ _ _ (by omega) (HJ.out _ _ _ _ (by omega) HJK.out (Kw.all HBH.out)) (Kw.all ((Below.refl _ _).alloc (Nat.le_refl _) _).drew)) (HITK _ (.slice (some ⟨wH.heap.size, 0, none⟩) 1 1) (show OI _ _ _ _ from own_one (w := wH) rfl (by omega)))
        clear HWK HITK
        go_simp
        refine ⟨rfl, hR.mono ?_⟩
        rintro e W3 ⟨rfl, hJ3, hk3⟩
        have HJ3 := Lib.hid hJ3
        have HK3 := Lib.hid hk3
        clear hJ3 hk3
        go_simp
        have hlb := World.block_lt_of_cell? wH.drew _ HSS.out.1
        have hl2 := World.block_lt_of_cell? wH.drew _ HSS.out.2.1
        have hke := fun (a : Addr) (v : Value) (hc : wH.drew.cell? a = some v) (hk : K a.block) => (World.cell?_of_block (a := a) (HK3.out.block a.block (.inl hk) (by have := World.block_lt_of_cell? wH.drew _ hc; simp at this ⊢; omega))).trans (alloc_cell (W := wH.drew) hc (.cells #[.int .i64 rg.d] 3))
        refine hK.out _ _ ⟨hke _ _ HSS.out.1 hKf, hke _ _ HSS.out.2.1 (HH.out b2 hb2), hke _ _ HSS.out.2.2 (HH.out b2 hb2)⟩ (fun hHeld => ?_)
        clear hK KK hke
        refine anyS_done (by kernel_rfl) ?_ _
        go_end0
        exact ⟨⟨_, rfl⟩, wG.heap.size, by omega, by rw [HWL.out]; exact HJ3.out⟩
      · have h0z : hh < 0 := by omega
        have HWN := Lib.hid (HWN.out h0)
        clear HWH HHL
        gi_wp2
        go_wp2_with (first | (go_at_call 17; (with_reducible refine HHR.out.mono ?_); rintro e wH ⟨rfl, hbH⟩; have HBH := Lib.hid hbH; clear hbH) | fail)
        go_end0
        refine ⟨⟨_, rfl⟩, wG.heap.size, by omega, ?_⟩
        rw [HWN.out, HE.out, ← HKE.out]
        · exact HJ.out _ _ _ _ (by omega) HJK.out (Kw.all HBH.out)
        all_goals exact h0z
end Go.Proofs.YtnniohimbmnapaaDoor
