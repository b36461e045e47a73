/- Layer 10: the document's Live. -/
import Derived.Test.YtnniohimbmnapaaDoorBack
import Derived.Test.YtnniohimbmnapaaDoorKhT
namespace Go.Proofs.YtnniohimbmnapaaDoor
open Go Go.ChangeShapes Go.WideShapes Go.RowKit
set_option linter.unusedVariables false
set_option linter.unusedSimpArgs false
attribute [local go_sem] Oper.semAt_some
theorem infoSlBk : (Tryd.prog.info? 75).map (fun i => (i.zero, i.size, i.bytes)) = some (some (.slice none 0 0), 1, 24) := by kernel_rfl
section
variable {P : Program} {w : World} {base : Nat} {t ty e : TypeId} {z : Value} {sz bytes : Nat} {v x : Value} {n m : Nat} {xs news : List Value}
theorem wpIn_appS {o : Oper} {a : Act} {K : Act → World → Prop} {Q : Exit → Act → World → Prop} (s y : Operand) (ho : o.op = .call { callee := .builtin .append, args := #[s, y], argTypes := #[t, t] })
    (ht : P.underlying t = some (.slice e)) (hinfo : (P.info? e).map (fun i => (i.zero, i.size, i.bytes)) = some (some z, sz, bytes)) (hz1 : z.cells.size = sz) (hsz0 : 0 < sz) (hv : a.eval s = v)
    (hown : w.ownsRow base e sz v n xs) (hx : a.eval y = x) (hs : SrcS sz w x m news) (h1 : ∀ u ∈ news, u.oneCell' = true) (h63 : n + m ≤ maxLen) (hbytes : (n + m) * bytes ≤ 140737488355328) (hbase : base ≤ w.heap.size)
    (h : ∀ v' w', ApdS sz w w' base e v v' (n + m) (xs ++ news) → K (a.put o.dst v') w') : o.wpIn Fence.wide 0 P a w K Q := by
  obtain ⟨v', w', hr, h2⟩ := run_appS (P := P) (ty := o.type) ht hinfo hz1 hsz0 hown hs h1 h63 hbytes hbase
  refine ⟨fun _ _ => trivial, ?_⟩
  rw [Fence.wide_round, Oper.semAt_none]
  simp [execOp, ho, resolve, invoke, builtin, hv, hx, hr, Result.andThen]
  exact h v' w' h2
theorem wpIn_appI {o : Oper} {a : Act} {K : Act → World → Prop} {Q : Exit → Act → World → Prop} (s y : Operand) (ho : o.op = .call { callee := .builtin .append, args := #[s, y], argTypes := #[t, t] })
    (ht : P.underlying t = some (.slice e)) (hinfo : (P.info? e).map (fun i => (i.zero, i.size, i.bytes)) = some (some z, 1, bytes)) (hz1 : z.cells.size = 1) (hv : a.eval s = v)
    (hown : w.ownsRow base e 1 v n xs) (hx : a.eval y = x) (hs : Src w x m news) (h1 : ∀ u ∈ news, u.oneCell' = true) (h63 : n + m ≤ maxLen) (hbytes : (n + m) * bytes ≤ 140737488355328) (hbase : base ≤ w.heap.size)
    (h : ∀ v' w', Apd w w' base e v v' (n + m) (xs ++ news) → K (a.put o.dst v') w') : o.wpIn Fence.wide 0 P a w K Q := by
  obtain ⟨v', w', hr, h2⟩ := run_app (P := P) (ty := o.type) ht hinfo hz1 hown hs h1 h63 hbytes hbase
  refine ⟨fun _ _ => trivial, ?_⟩
  rw [Fence.wide_round, Oper.semAt_none]
  simp [execOp, ho, resolve, invoke, builtin, hv, hx, hr, Result.andThen]
  exact h v' w' h2
end
theorem pushW_upd (x tw : Nat) (ff : Nat → List (Nat × List Nat)) (ws : List Nat) : pushW x ff (tw, ws) = updF ff tw (ff tw ++ [(x, ws)]) := by
  funext y
  unfold pushW updF
  by_cases e : y = tw
  · subst e; simp
  · simp [e]
theorem pushR_upd (x q : Nat) (ff : Nat → List Nat) : pushR x ff q = updF ff q (ff q ++ [x]) := by
  funext y
  unfold pushR updF
  by_cases e : y = q
  · subst e; simp
  · simp [e]
theorem own_ne_u64 {w : World} {B g b : Nat} {v : Value} {ls : List Int} {cs : List Value} (h : OI w B v ls) (hg : v.ownBlock = some g) (hb : Blk w b cs 53) : g ≠ b := by
  rintro rfl
  rcases h.2 with ⟨rfl, _⟩ | ⟨g', c, cur, rfl, _, hh, _⟩
  · cases hg
  · simp only [Value.ownBlock, Option.some.injEq] at hg
    subst hg
    unfold Blk at hb
    rw [hh] at hb
    simp only [Option.some.injEq, Obj.cells.injEq] at hb
    exact absurd hb.2.1 (by decide)
theorem LM.sb {bO bB bR n R s S0 : Nat} {tg rho : Nat → Nat} {BV : Nat → Value} {BB : Nat → List (Nat × List Nat)} {RV : Nat → Value} {RR : Nat → List Nat} {A W : World} (h : LM bO bB bR n n R s S0 tg rho BV BB RV RR A)
    (hk : Kw (fun b => ∀ x, x < n → b ≠ rho x) A W) (hl : ∀ y, y < n → ∀ p ∈ BB y, p.2.length ≤ 17592186044416) : SB W bB n BB := fun y hy => by
  have hkt : ∀ g, g < A.heap.size → tg g ≠ 0 → W.heap[g]? = A.heap[g]? := fun g hg ht => hk.block g (fun x hx e => ht (by rw [e]; exact h.trow x hx)) hg
  have hcB : W.cell? ⟨bB, y, none⟩ = some (BV y) := (World.cell?_of_block (a := ⟨bB, y, none⟩) (hkt bB h.back.lt (by rw [h.tB]; omega))).trans (h.back.cell (i := y) (v := BV y) (by rw [List.getElem?_map, List.getElem?_range hy]; rfl))
  have htb := h.tback y hy
  obtain ⟨us, h1, h2, h3⟩ := h.brow y hy
  obtain ⟨p, c, hp⟩ := owns_form h2
  rw [hp] at h2 hcB htb
  refine ⟨p, c, hcB, fun i hi => ?_⟩
  rcases h2.2 with ⟨h4, h5⟩ | ⟨g, c', cur, h4, h0, hg, r⟩
  · omega
  · simp only [Value.slice.injEq] at h4
    obtain ⟨rfl, _, rfl⟩ := h4
    obtain ⟨a1, a2, a3⟩ := h3 i hi
    have hgl := (Array.getElem?_eq_some_iff.1 hg).1
    have hgw : W.heap[g]? = A.heap[g]? := hkt g hgl (by rw [htb g rfl]; omega)
    have hu : OI W S0 (us.getD i usZ).2 (ints ((BB y).getD i (0, [])).2) := OW.block a2 fun g2 hg2 => hk.block g2 (fun x hx e => own_ne_u64 a2 hg2 (h.row x hx) e) (OW.lt a2 hg2).2
    refine ⟨g, (us.getD i usZ).2, rfl, (World.cell?_of_block (a := ⟨g, i * 2, none⟩) hgw).trans ?_, (World.cell?_of_block (a := ⟨g, i * 2 + 1, none⟩) hgw).trans ?_, hu.mine.ri ?_⟩
    · have h6 := h2.cells (g := g) rfl (i * 2) _ (flat_at us i (by omega)).1
      rw [← a1]
      have e : (⟨g, 0, none⟩ : Addr).add (i * 2) = ⟨g, i * 2, none⟩ := by unfold Addr.add; split <;> simp_all
      rw [e] at h6
      rw [h6, List.getD_eq_getElem?_getD, List.getElem?_eq_getElem (by omega)]; rfl
    · have h6 := h2.cells (g := g) rfl (i * 2 + 1) _ (flat_at us i (by omega)).2
      have e : (⟨g, 0, none⟩ : Addr).add (i * 2 + 1) = ⟨g, i * 2 + 1, none⟩ := by unfold Addr.add; split <;> simp_all
      rw [e] at h6
      rw [h6, List.getD_eq_getElem?_getD, List.getElem?_eq_getElem (by omega)]; rfl
    · rw [ints_len]
      exact hl y hy _ (by rw [List.getD_eq_getElem?_getD, List.getElem?_eq_getElem hi]; simp)
theorem ways_wl {F : FuncD} {w : World} {iv : Value} (hS : SoundF F) (hI : Ii w iv F.ins) {x : Nat} (hx : x < F.ins.length) {v : Nat × List Nat} (hv : v ∈ waysN F x) : v.2.length ≤ 17592186044416 := by
  obtain ⟨i, hi, rfl⟩ := List.getElem_of_mem hv
  have hi2 : i < (waysD F x).length := by rw [← waysN_len]; exact hi
  obtain ⟨tw, ws, h1, h2, _, _⟩ := hS.at_ hx hi2
  rw [List.getD_eq_getElem?_getD, List.getElem?_eq_getElem hi] at h1
  simp only [Option.getD_some] at h1
  rw [h1]
  have hmem : ((tw : Int), ints ws) ∈ waysD F x := by
    rw [← h2, List.getD_eq_getElem?_getD, List.getElem?_eq_getElem hi2]; simp
  have h3 := ways_wlen F x _ hmem
  have h4 := ii_len hI hx
  dsimp only at h3
  rw [ints_len] at h3
  show ws.length ≤ _
  omega
/-- What the rounds over the registers hold. -/
structure SpG (F : FuncD) (s bO : Nat) (rho : Nat → Nat) (wP : World) (q : Nat) (L : List (List Nat)) (W : World) : Prop where
  wl : Wl bO F.ins.length s rho W L
  kw : Kw (fun b => ∀ x, x < F.ins.length → b ≠ rho x) wP W
  ok : OkL (grOf F) L
  lo : ∀ y, y < F.ins.length → ∀ z, z < q → (hasW (L.getD y []) z = true ↔ Lv (grOf F) y z)
  hi : ∀ y, y < F.ins.length → ∀ z, q ≤ z → hasW (L.getD y []) z = false
/-- What the rounds of Live hold while it gathers: ahead of instruction k, of its ways j are done. -/
structure LvG (F : FuncD) (s S0 bO : Nat) (w1 : World) (m : Nat) (BB : Nat → List (Nat × List Nat)) (RR : Nat → List Nat) (tg : Nat → Nat) (A : World) : Prop where
  lm : ∃ rho BV RV, LM bO (bO + 1) (bO + 2) F.ins.length m F.regs.toNat s S0 tg rho BV BB RV RR A
  low : Below S0 w1 A
set_option maxRecDepth 100000 in
set_option maxHeartbeats 8000000 in
theorem rlive_any (r : RestV) (F : FuncD) (iv rv : Value) (hs : soundB F = true) (hnn : F.ins.length ≤ 1048576) (hll : ∀ x, x < F.ins.length → (readsN F x).length ≤ 2097152) (w : World) (hU : Us w) (hI : Ii w iv F.ins) (hR : Rg w rv F.regions) :
    Calls Tryd.prog 25 #[funcV r F iv rv] w fun e B => ∃ v L, e = .returned v ∧ Rr B v L ∧ OkL (grOf F) L ∧ (∀ y, y < F.ins.length → ∀ q, hasW (L.getD y []) q = true ↔ Lv (grOf F) y q) ∧ Below w.heap.size w B := by
  have HWR := rways_any r F iv rv
  obtain ⟨p, c, rfl, _, _, hpi⟩ := ii_form hI
  obtain ⟨p2, c2, rfl, _, _, _⟩ := rg_form hR
  unfold funcV at HWR ⊢
  replace HWR := Lib.hid HWR
  have HPI := Lib.hid hpi
  have HX := Lib.hid (Box10.new w r F (.slice p F.ins.length c) (.slice p2 F.regions.length c2) 27)
  have HB0 := Lib.hid (show Below w.heap.size w (w.alloc (.cells #[.string r.name, .int .i64 F.params, .int .i64 F.regs, .int .i64 r.frees, .bool r.gen, .int .i64 r.bound, .slice r.np r.nn r.nc, .slice r.cp r.cn r.cc, .slice p F.ins.length c, .slice p2 F.regions.length c2] 27)) from by ((repeat' (first | with_reducible assumption | with_reducible exact Below.refl _ _ | with_reducible refine Below.drew ?_ | with_reducible refine Below.alloc ?_ (by first | omega | (simp; omega) | (simp; done) | fail) _ | with_reducible refine Below.setCell ?_ (by first | omega | (simp; omega) | (simp; done) | fail) _ | fail)); (first | done | fail)))
  have HU := Lib.hid hU
  have HI := Lib.hid hI
  have HR := Lib.hid hR
  have HSF := Lib.hid (soundF hs)
  have hr0 := HSF.out.r0
  have hr1 := HSF.out.r1
  have hnp := HSF.out.pos
  have HLL := Lib.hid hll
  obtain ⟨R, hRe⟩ : ∃ R, F.regs.toNat = R := ⟨_, rfl⟩
  have hRz : F.regs = (R : Int) := by omega
  have hR64 : R ≤ 65536 := by omega
  obtain ⟨s, hse⟩ : ∃ s, (grOf F).s = s := ⟨_, rfl⟩
  have hs63 : s = (R + 63) / 64 := by rw [← hse, ← hRe]; rfl
  have hs4 : s ≤ 1024 := by omega
  have ew : (F.regs + 63) / 64 = (s : Int) := by omega
  have hm1 := mk_row Tryd.underlying43 infoSlU rfl F.ins.length (by omega) (by omega)
  have hm2 := mk_row Tryd.underlying74 infoSlBk rfl F.ins.length (by omega) (by omega)
  have hm3 : ∀ wx : World, (Instr.makeSlice 70 (.int .i64 F.regs) (.int .i64 F.regs)).run Tryd.prog wx = .ok (.slice (some ⟨wx.heap.size, 0, none⟩) R R) (wx.alloc (.cells (List.replicate R (.slice none 0 0)).toArray 31)) := fun wx => by
    rw [hRz]; exact mk_row Tryd.underlying70 infoSlI rfl R (by omega) (by omega) wx
  have hm4 := mk_row Tryd.underlying52 infoU64L rfl s (by omega) (by omega)
  have HRE := Lib.hid hRe
  have HRZ := Lib.hid hRz
  have HSE := Lib.hid hse
  have HS63 := Lib.hid hs63
  clear hU hI hR hpi hs hll hRe hse hRz hs63
  go_enter Tryd.func25, Tryd.ntmps25
  go_wp2_with fail
  obtain ⟨bO, hbO⟩ : ∃ bO, w.heap.size + 1 = bO := ⟨_, rfl⟩
  generalize hw1 : w.alloc (.cells #[.string r.name, .int .i64 F.params, .int .i64 F.regs, .int .i64 r.frees, .bool r.gen, .int .i64 r.bound, .slice r.np r.nn r.nc, .slice r.cp r.cn r.cc, .slice p F.ins.length c, .slice p2 F.regions.length c2] 27) = w1 at HX HB0
  have hz1 : w1.heap.size = bO := by rw [← hw1, ← hbO]; simp
  have HST := Lib.hid (show LvG F s bO bO w1 0 (bbAll F 0) (rrAll F 0) (fun b => if b = bO then 3 else if b = bO + 1 then 1 else if b = bO + 2 then 2 else 0) (((w1.alloc (.cells (Array.replicate F.ins.length (.slice none 0 0)) 52)).alloc (.cells (Array.replicate F.ins.length (.slice none 0 0)) 75)).alloc (.cells (Array.replicate R (.slice none 0 0)) 31)) from by
    have hb : Below bO w1 (((w1.alloc (.cells (Array.replicate F.ins.length (.slice none 0 0)) 52)).alloc (.cells (Array.replicate F.ins.length (.slice none 0 0)) 75)).alloc (.cells (Array.replicate R (.slice none 0 0)) 31)) := by rw [← hz1]; ((repeat' (first | with_reducible assumption | with_reducible exact Below.refl _ _ | with_reducible refine Below.drew ?_ | with_reducible refine Below.alloc ?_ (by first | omega | (simp; omega) | (simp; done) | fail) _ | with_reducible refine Below.setCell ?_ (by first | omega | (simp; omega) | (simp; done) | fail) _ | fail)); (first | done | fail))
    refine ⟨⟨fun _ => 0, fun _ => .slice none 0 0, fun _ => .slice none 0 0, ?_, ?_, ?_, fun x hx => (by omega), fun y hy => BO.nil _ _ _, fun q hq => OW.nil _ _, by simp, by simp, by simp, fun x hx => (by omega), fun y hy g hg => (by cases hg), fun q hq g hg => (by cases hg), Nat.le_refl _, by omega, by omega, fun x hx => (by omega), fun x y hx => (by omega), fun b hb => ?_⟩, hb⟩
    · exact ((blk_arrS (A := w1) (l := outL (fun _ => 0) F.ins.length 0 s) hz1.symm (by rw [outL_none]; simp)).block (Below.heap_alloc _ _ _ (by simp [hz1]))).block (Below.heap_alloc _ _ _ (by simp [hz1]; omega))
    · exact (blk_arrS (A := w1.alloc _) (l := (List.range F.ins.length).map fun _ => .slice none 0 0) (by simp [hz1]) (by simp [List.map_const'])).block (Below.heap_alloc _ _ _ (by simp [hz1]))
    · exact blk_arrS (l := (List.range F.regs.toNat).map fun _ => .slice none 0 0) (by simp [hz1]) (by simp [List.map_const', HRE.out])
    · simp [hz1] at hb
      rw [if_neg (by omega), if_neg (by omega), if_neg (by omega)])
  rw [hbO, ew]
  have hbw : w.heap.size < bO := by omega
  go_loopw [7] (fun s7 wx => ∃ (k : Nat) (tg : Nat → Nat), s7 = .int .i64 k ∧ k ≤ F.ins.length ∧ LvG F s bO bO w1 k (bbAll F k) (rrAll F k) tg wx) (fun s7 _ => F.ins.length - (intOf s7).toNat)
  case atStart => exact ⟨0, _, rfl, Nat.zero_le _, HST.out⟩
  case round =>
    obtain ⟨k, tg, rfl, hk, hlv⟩ := hrel
    obtain ⟨⟨rho, BV, RV, hlm⟩, hlow⟩ := hlv
    have HLM := Lib.hid hlm
    have HLOW := Lib.hid hlow
    have hbl := hlm.out.lt
    have hsz0 := hlow.size
    rw [hz1] at hsz0
    obtain ⟨y0, y1, y2, y3, y4, y5, y6, y7, y8, y9⟩ := (HX.out.keep hlow hbw).all
    by_cases hlt : k < F.ins.length
    · have hnr := hlm.newRow (arr := Array.replicate s (.int .u64 0)) hlt (by simp [wordV])
      obtain ⟨hlm1, hst1⟩ := hnr
      have hfo := hlm.out.frozen k
      obtain ⟨v0, hc0⟩ : ∃ v0, wr.cell? ⟨bO, k, none⟩ = some v0 := ⟨_, hlm.out.cell (i := k) (by unfold outL; rw [List.getElem?_map, List.getElem?_range hlt]; rfl)⟩
      have hkz : (k : Int) < (F.ins.length : Int) := by omega
      have hlow1 := hlow.trans ((hst1.kw.below (n := bO) (by omega) (fun b hb => .inl hb)).mono (by omega))
      obtain ⟨C, hC⟩ : ∃ C, (wr.setCell ⟨bO, k, none⟩ (.slice (some ⟨wr.heap.size, 0, none⟩) s s)).alloc (.cells (Array.replicate s (.int .u64 0)) 53) = C := ⟨_, rfl⟩
      have hszC : C.heap.size = wr.heap.size + 1 := by rw [← hC]; simp
      obtain ⟨x0, x1, x2, x3, x4, x5, x6, x7, x8, x9⟩ := (HX.out.keep hlow1 hbw).all
      have hlw1 : Below w.heap.size w C := HB0.out.trans ((hC ▸ hlow1).mono (by omega))
      have HWY := Lib.hid (HWR.out k C (HU.out.keep hlw1) (HI.out.keep hlw1) (HR.out.keep hlw1) hlt)
      have HLW1 := Lib.hid hlw1
      rw [hC] at hlm1 hst1 hlow1
      have HLM1 := Lib.hid hlm1
      have HLOW1 := Lib.hid hlow1
      have HCE := Lib.hid hC
      rw [← hC] at HWY
      clear hlm1 hst1 hlow1 hlw1 hlm hlow hC
      go_wp2_with (first
        | (go_at_call 20; (with_reducible refine HWY.out.mono ?_); rintro e wD ⟨uD, rfl, hwo, hbD⟩; have HWO := Lib.hid hwo; obtain ⟨pD, cD, rfl, hcD⟩ := way_form hwo; have HBD := Lib.hid hbD; clear hwo hcD hbD x0 x1 x2 x3 x4 x5 x6 x7 x8 x9 y0 y1 y2 y3 y4 y5 y6 y7 y8 y9)
        | fail)
      rw [HCE.out] at HWO HBD
      have hsD := HBD.out.size
      have hw3 := waysD_le F k
      have hwlN := waysN_len F k
      clear hc0 hfo
      obtain ⟨wA, rfl⟩ : ∃ wA : World, wA = wr := ⟨_, rfl⟩
      go_loopw [9] (fun s9 wx => ∃ (j : Nat) (tg : Nat → Nat), s9 = .int .i64 j ∧ j ≤ (waysD F k).length ∧ LvG F s bO bO w1 (k + 1) (((waysN F k).take j).foldl (pushW k) (bbAll F k)) (rrAll F k) tg wx ∧ (∀ g, C.heap.size ≤ g → g < wD.heap.size → tg g = 0) ∧ Kw (fun g => C.heap.size ≤ g ∧ g < wD.heap.size) wD wx) (fun s9 _ => (waysD F k).length - (intOf s9).toNat)
      case atStart => exact ⟨0, tg, rfl, Nat.zero_le _, ⟨⟨_, BV, RV, HLM1.out.keep HBD.out⟩, HLOW1.out.trans (HBD.out.mono (by omega))⟩, fun g h1 _ => HLM.out.fresh g (by omega), Kw.refl _ _⟩
      case round =>
        obtain ⟨j, tgj, rfl, hj, ⟨⟨rhoj, BVj, RVj, hlmj⟩, hlowj⟩, htj, hkw⟩ := hrel
        have hszj := hkw.size
        have HLMJ := Lib.hid hlmj
        have HLOWJ := Lib.hid hlowj
        have HTJ := Lib.hid htj
        have HKW := Lib.hid hkw
        by_cases hjl : j < (waysD F k).length
        · obtain ⟨bD, u, rfl, q1, q2, q3⟩ := way_cellS HWO.out hjl
          obtain ⟨tw, ws, hwn, hwd, htw, hws⟩ := HSF.out.at_ hlt hjl
          have hbD : C.heap.size ≤ bD ∧ bD < wD.heap.size := by
            obtain ⟨us', _, h2, _⟩ := HWO.out
            exact ownsRow_lt h2 rfl
          rw [hwd] at q1 q3
          obtain ⟨pU, cU, rfl⟩ := own_form q3
          dsimp only at q1
          have g1 := (World.cell?_of_block (a := ⟨bD, j * 2, none⟩) (hkw.block bD hbD hbD.2)).trans q1
          have g2 := (World.cell?_of_block (a := ⟨bD, j * 2 + 1, none⟩) (hkw.block bD hbD hbD.2)).trans q2
          have g3 : OI wr C.heap.size _ _ := OW.kw q3 hkw (fun g hg => OW.lt q3 hg)
          have HUT := Lib.hid (show ∀ g, (Value.slice pU (ints ws).length cU).ownBlock = some g → tgj g = 0 from fun g hg => htj g (OW.lt q3 hg).1 (OW.lt q3 hg).2)
          rw [ints_len] at g2 g3 HUT
          clear q1 q2 q3
          obtain ⟨us, hu1, hu2, hu3⟩ := hlmj.brow tw htw
          have hbln := blens_fold k F.ins.length ((waysN F k).take j) (bbAll F k)
          have hbla := blens_all F F.ins.length k
          have hblt := blens_at (BB := ((waysN F k).take j).foldl (pushW k) (bbAll F k)) F.ins.length htw
          rw [List.length_take] at hbln
          have HPS := Lib.hid (take_fold (by rw [waysN_len]; exact hjl) hwn (pushW k) (bbAll F k))
          have htb := hlmj.tback tw htw
          have hcB := hlmj.back.cell (i := tw) (v := BVj tw) (by rw [List.getElem?_map, List.getElem?_range htw]; rfl)
          have hfB := hlmj.back.frozen tw
          obtain ⟨BBj, hBB⟩ : ∃ BBj, ((waysN F k).take j).foldl (pushW k) (bbAll F k) = BBj := ⟨_, rfl⟩
          rw [hBB] at HLMJ HPS hu1 hu2 hu3 hblt hbln
          obtain ⟨nb, hnb⟩ : ∃ nb, (BBj tw).length = nb := ⟨_, rfl⟩
          rw [hnb] at hu2 hblt
          have hnbl : nb ≤ 4194304 := by omega
          obtain ⟨pv, cv, hpv⟩ := owns_form hu2
          have HPV := Lib.hid hpv
          rw [hpv] at hu2 hcB htb
          have hBl := hlmj.back.lt
          have hOl := hlmj.lB
          have htB := hlmj.tB
          have hne : ∀ g, (Value.slice pv nb cv).ownBlock = some g → g ≠ bD ∧ g ≠ bO + 1 ∧ bO ≤ g := fun g hg => by
            have h1 := htb g hg
            refine ⟨fun e => ?_, fun e => ?_, (ownsRow_lt hu2 hg).1⟩
            · rw [e, htj bD hbD.1 hbD.2] at h1; omega
            · rw [e, htB] at h1; omega
          have HNE := Lib.hid hne
          have HU2 := Lib.hid hu2
          have HU3 := Lib.hid hu3
          have HG3 := Lib.hid g3
          have hjz : (j : Int) < ((waysD F k).length : Int) := by omega
          have htz : (tw : Int) < (F.ins.length : Int) := by omega
          have hT : wr.drew.cell? ⟨bD, j * 2, none⟩ = some (.int .i64 tw) ∧ wr.drew.cell? ⟨bD, j * 2 + 1, none⟩ = some (.slice pU ws.length cU) ∧ wr.drew.cell? ⟨bO + 1, tw, none⟩ = some (.slice pv nb cv) := ⟨g1, g2, hcB⟩
          obtain ⟨z1, z2, z3⟩ := hT
          have zz3 := alloc_cell z3 (.cells #[.int .i64 k, .slice pU ws.length cU] 77)
          have hBlA := HLM.out.back.lt
          have hbne : bD ≠ bO + 1 := by omega
          clear hlmj hlowj htj hkw hwn hwd hws hu2 hu3 g3 hpv hne htb htB hbln hbla hBB
          go_wp2_with fail
          refine wp_region_anyU (S := fun w' => w'.cell? ⟨bD, j * 2, none⟩ = some (.int .i64 tw) ∧ w'.cell? ⟨bD, j * 2 + 1, none⟩ = some (.slice pU ws.length cU) ∧ w'.cell? ⟨bO + 1, tw, none⟩ = some (.slice pv nb cv)) 24 (by kernel_rfl) ⟨by kernel_rfl, by kernel_rfl, by kernel_rfl, by kernel_rfl, by decide⟩ ⟨z1, z2, z3⟩ ?_
          simp only [List.drop_succ_cons, List.drop_zero]
          intro hh inv hS0
          refine anyU_take hh inv (i := 0) (v := ?_) rfl (by decide) (by kernel_rfl) (by kernel_rfl) (fun _ _ _ h => h) (Or.inl ⟨by rfl, ?_⟩) (by assumption) ?_
          rotate_left 1
          · intro w' hSw
            (try dsimp only at hSw)
            go_simp
            (try with_reducible rfl)
          intro inv
          (try simp only [List.getElem_toArray, List.getElem_cons_succ, List.getElem_cons_zero, Act.put, List.setIfInBounds_toArray, List.set_cons_zero, List.set_cons_succ])
          refine anyU_take hh inv (i := 1) (v := ?_) rfl (by decide) (by kernel_rfl) (by kernel_rfl) (fun _ _ _ h => h) (Or.inl ⟨by rfl, ?_⟩) (by assumption) ?_
          rotate_left 1
          · intro w' hSw
            (try dsimp only at hSw)
            go_simp
            (try with_reducible rfl)
          intro inv
          (try simp only [List.getElem_toArray, List.getElem_cons_succ, List.getElem_cons_zero, Act.put, List.setIfInBounds_toArray, List.set_cons_zero, List.set_cons_succ])
          refine anyU_take hh inv (i := 2) (v := ?_) rfl (by decide) (by kernel_rfl) (by kernel_rfl) (fun _ _ _ h => h) (Or.inl ⟨by rfl, ?_⟩) (by assumption) ?_
          rotate_left 1
          · intro w' hSw
            (try dsimp only at hSw)
            go_simp
            (try with_reducible rfl)
          intro inv
          (try simp only [List.getElem_toArray, List.getElem_cons_succ, List.getElem_cons_zero, Act.put, List.setIfInBounds_toArray, List.set_cons_zero, List.set_cons_succ])
          refine anyU_take hh inv (i := 3) (v := ?_) rfl (by decide) (by kernel_rfl) (by kernel_rfl) (fun _ _ _ h => h) (Or.inl ⟨by rfl, ?_⟩) (by assumption) ?_
          rotate_left 1
          · intro w' hSw
            (try dsimp only at hSw)
            go_simp
            (try with_reducible rfl)
          intro inv
          (try simp only [List.getElem_toArray, List.getElem_cons_succ, List.getElem_cons_zero, Act.put, List.setIfInBounds_toArray, List.set_cons_zero, List.set_cons_succ])
          refine anyU_take hh inv (i := 4) (v := ?_) rfl (by decide) (by kernel_rfl) (by kernel_rfl) (fun _ _ _ h => h) (Or.inl ⟨by rfl, ?_⟩) (by assumption) ?_
          rotate_left 1
          · intro w' hSw
            (try dsimp only at hSw)
            go_simp
            (try with_reducible rfl)
          intro inv
          (try simp only [List.getElem_toArray, List.getElem_cons_succ, List.getElem_cons_zero, Act.put, List.setIfInBounds_toArray, List.set_cons_zero, List.set_cons_succ])
          refine anyU_take hh inv (i := 5) (v := ?_) rfl (by decide) (by kernel_rfl) (by kernel_rfl) (fun _ _ _ h => h) (Or.inl ⟨by rfl, ?_⟩) (by assumption) ?_
          rotate_left 1
          · intro w' hSw
            (try dsimp only at hSw)
            go_simp
            (try with_reducible rfl)
          intro inv
          (try simp only [List.getElem_toArray, List.getElem_cons_succ, List.getElem_cons_zero, Act.put, List.setIfInBounds_toArray, List.set_cons_zero, List.set_cons_succ])
          refine anyU_take hh inv (i := 6) (v := ?_) rfl (by decide) (by kernel_rfl) (by kernel_rfl) (fun _ _ _ h => h) (Or.inl ⟨by rfl, ?_⟩) (by assumption) ?_
          rotate_left 1
          · intro w' hSw
            (try dsimp only at hSw)
            go_simp
            (try with_reducible rfl)
          intro inv
          (try simp only [List.getElem_toArray, List.getElem_cons_succ, List.getElem_cons_zero, Act.put, List.setIfInBounds_toArray, List.set_cons_zero, List.set_cons_succ])
          refine anyU_take hh inv (i := 7) (v := ?_) rfl (by decide) (by kernel_rfl) (by kernel_rfl) (fun _ _ _ h => h) (Or.inl ⟨by rfl, ?_⟩) (by assumption) ?_
          rotate_left 1
          · intro w' hSw
            (try dsimp only at hSw)
            go_simp
            (try with_reducible rfl)
          intro inv
          (try simp only [List.getElem_toArray, List.getElem_cons_succ, List.getElem_cons_zero, Act.put, List.setIfInBounds_toArray, List.set_cons_zero, List.set_cons_succ])
          refine anyU_take hh inv (i := 8) (v := ?_) rfl (by decide) (by kernel_rfl) (by kernel_rfl) (fun _ _ _ h => h) (Or.inl ⟨by rfl, ?_⟩) (by assumption) ?_
          rotate_left 1
          · intro w' hSw
            (try dsimp only at hSw)
            go_simp
            (try with_reducible rfl)
          intro inv
          (try simp only [List.getElem_toArray, List.getElem_cons_succ, List.getElem_cons_zero, Act.put, List.setIfInBounds_toArray, List.set_cons_zero, List.set_cons_succ])
          refine anyU_take hh inv (i := 9) (v := ?_) rfl (by decide) (by kernel_rfl) (by kernel_rfl) (fun _ _ _ h => h) (Or.inl ⟨by rfl, ?_⟩) (by assumption) ?_
          rotate_left 1
          · intro w' hSw
            (try dsimp only at hSw)
            go_simp
            (try with_reducible rfl)
          intro inv
          (try simp only [List.getElem_toArray, List.getElem_cons_succ, List.getElem_cons_zero, Act.put, List.setIfInBounds_toArray, List.set_cons_zero, List.set_cons_succ])
          refine anyU_take hh inv (i := 10) (v := ?_) rfl (by decide) (by kernel_rfl) (by kernel_rfl) (fun _ _ _ h => h) (Or.inl ⟨by rfl, ?_⟩) (by assumption) ?_
          rotate_left 1
          · intro w' hSw
            (try dsimp only at hSw)
            go_simp
            (try with_reducible rfl)
          intro inv
          (try simp only [List.getElem_toArray, List.getElem_cons_succ, List.getElem_cons_zero, Act.put, List.setIfInBounds_toArray, List.set_cons_zero, List.set_cons_succ])
          refine anyU_take hh inv (i := 11) (v := ?_) rfl (by decide) (by kernel_rfl) (by kernel_rfl) (fun _ _ _ h => h) (Or.inl ⟨by rfl, ?_⟩) (by assumption) ?_
          rotate_left 1
          · intro w' hSw
            (try dsimp only at hSw)
            go_simp
            (try with_reducible rfl)
          intro inv
          (try simp only [List.getElem_toArray, List.getElem_cons_succ, List.getElem_cons_zero, Act.put, List.setIfInBounds_toArray, List.set_cons_zero, List.set_cons_succ])
          refine anyU_take hh inv (i := 12) (v := ?_) rfl (by decide) (by kernel_rfl) (by kernel_rfl) (fun _ _ _ h => h) (Or.inl ⟨by rfl, ?_⟩) (by assumption) ?_
          rotate_left 1
          · intro w' hSw
            (try dsimp only at hSw)
            go_simp
            (try with_reducible rfl)
          intro inv
          (try simp only [List.getElem_toArray, List.getElem_cons_succ, List.getElem_cons_zero, Act.put, List.setIfInBounds_toArray, List.set_cons_zero, List.set_cons_succ])
          refine anyU_take hh inv (i := 13) (v := ?_) rfl (by decide) (by kernel_rfl) (by kernel_rfl) (fun _ _ _ h => h) (Or.inl ⟨by rfl, ?_⟩) (by assumption) ?_
          rotate_left 1
          · intro w' hSw
            (try dsimp only at hSw)
            go_simp
            (try with_reducible rfl)
          intro inv
          (try simp only [List.getElem_toArray, List.getElem_cons_succ, List.getElem_cons_zero, Act.put, List.setIfInBounds_toArray, List.set_cons_zero, List.set_cons_succ])
          refine anyU_take hh inv (i := 14) (v := ?_) rfl (by decide) (by kernel_rfl) (by kernel_rfl) (fun _ _ _ h => h) (Or.inl ⟨by rfl, ?_⟩) (by assumption) ?_
          rotate_left 1
          · intro w' hSw
            (try dsimp only at hSw)
            go_simp
            (try with_reducible rfl)
          intro inv
          (try simp only [List.getElem_toArray, List.getElem_cons_succ, List.getElem_cons_zero, Act.put, List.setIfInBounds_toArray, List.set_cons_zero, List.set_cons_succ])
          refine anyU_take hh inv (i := 15) (v := ?_) rfl (by decide) (by kernel_rfl) (by kernel_rfl) (fun _ _ _ h => h) (Or.inl ⟨by rfl, ?_⟩) (by assumption) ?_
          rotate_left 1
          · intro w' hSw
            (try dsimp only at hSw)
            go_simp
            (try with_reducible rfl)
          intro inv
          (try simp only [List.getElem_toArray, List.getElem_cons_succ, List.getElem_cons_zero, Act.put, List.setIfInBounds_toArray, List.set_cons_zero, List.set_cons_succ])
          refine anyU_take hh inv (i := 16) (v := ?_) rfl (by decide) (by kernel_rfl) (by kernel_rfl) (fun _ _ _ h => h) (Or.inl ⟨by rfl, ?_⟩) (by assumption) ?_
          rotate_left 1
          · intro w' hSw
            (try dsimp only at hSw)
            go_simp
            (try with_reducible rfl)
          intro inv
          (try simp only [List.getElem_toArray, List.getElem_cons_succ, List.getElem_cons_zero, Act.put, List.setIfInBounds_toArray, List.set_cons_zero, List.set_cons_succ])
          refine anyU_take hh inv (i := 17) (v := ?_) rfl (by decide) (by kernel_rfl) (by kernel_rfl) (fun _ _ _ h => h) (Or.inl ⟨by rfl, ?_⟩) (by assumption) ?_
          rotate_left 1
          · intro w' hSw
            (try dsimp only at hSw)
            go_simp
            (try with_reducible rfl)
          intro inv
          (try simp only [List.getElem_toArray, List.getElem_cons_succ, List.getElem_cons_zero, Act.put, List.setIfInBounds_toArray, List.set_cons_zero, List.set_cons_succ])
          refine anyU_take hh inv (i := 18) (v := ?_) rfl (by decide) (by kernel_rfl) (by kernel_rfl) (fun _ _ _ h => h) (Or.inl ⟨by rfl, ?_⟩) (by assumption) ?_
          rotate_left 1
          · intro w' hSw
            (try dsimp only at hSw)
            go_simp
            (try with_reducible rfl)
          intro inv
          (try simp only [List.getElem_toArray, List.getElem_cons_succ, List.getElem_cons_zero, Act.put, List.setIfInBounds_toArray, List.set_cons_zero, List.set_cons_succ])
          refine anyU_take hh inv (i := 19) (v := ?_) rfl (by decide) (by kernel_rfl) (by kernel_rfl) (fun _ _ _ h => h) (Or.inl ⟨by rfl, ?_⟩) (by assumption) ?_
          rotate_left 1
          · intro w' hSw
            (try dsimp only at hSw)
            go_simp
            (try with_reducible rfl)
          intro inv
          (try simp only [List.getElem_toArray, List.getElem_cons_succ, List.getElem_cons_zero, Act.put, List.setIfInBounds_toArray, List.set_cons_zero, List.set_cons_succ])
          refine anyU_take hh inv (i := 20) (v := ?_) rfl (by decide) (by kernel_rfl) (by kernel_rfl) (fun _ _ _ h => h) (Or.inl ⟨by rfl, ?_⟩) (by assumption) ?_
          rotate_left 1
          · intro w' hSw
            (try dsimp only at hSw)
            go_simp
            (try with_reducible rfl)
          intro inv
          (try simp only [List.getElem_toArray, List.getElem_cons_succ, List.getElem_cons_zero, Act.put, List.setIfInBounds_toArray, List.set_cons_zero, List.set_cons_succ])
          refine anyU_one inv (i := 21) rfl rfl (by kernel_rfl) (by decide) (fun inv KK hK => ?_)
          go_simp
          refine hK.out _ _ ⟨alloc_cell z1 _, alloc_cell z2 _, alloc_cell z3 _⟩ (fun hHeld => ?_)
          clear hK KK
          (try simp only [List.getElem_toArray, List.getElem_cons_succ, List.getElem_cons_zero, Act.put, List.setIfInBounds_toArray, List.set_cons_zero, List.set_cons_succ])
          refine anyU_one inv (i := 22) rfl rfl (by kernel_rfl) (by decide) (fun inv KK hK => ?_)
          refine wpIn_appS (.tmp 62) (.tmp 70) rfl Tryd.underlying75 infoBack rfl (by decide) rfl (v := .slice pv nb cv) (base := bO) (n := nb) (m := 1) (xs := flat us) (news := [.int .i64 k, .slice pU ws.length cU]) (ownsRow_keep HU2.out (((Below.refl _ _).drew).alloc (Nat.le_refl _) _)) rfl (by exact srcS_top (by first | rfl | (simp; done)) rfl) (way_one _ _ rfl) (by unfold maxLen; omega) (by omega) (by simp; omega) ?_
          intro v' w5 hap
          have hkb : ∀ b, b < wr.heap.size → (∀ g, (Value.slice pv nb cv).ownBlock = some g → g ≠ b) → w5.heap[b]? = wr.heap[b]? := fun b hb hn => (hap.grown.block b (by simp; omega) (fun e => hn b e.symm rfl)).trans (Below.heap_alloc _ _ _ (by simpa using hb))
          have hcB5 : w5.cell? ⟨bO + 1, tw, none⟩ = some (.slice pv nb cv) := (World.cell?_of_block (a := ⟨bO + 1, tw, none⟩) (hkb (bO + 1) hBl (fun g hg => (HNE.out g hg).2.1))).trans hcB
          have hfB5 : w5.frozen? ⟨bO + 1, tw, none⟩ = false := (World.frozen?_of_block (a := ⟨bO + 1, tw, none⟩) (hkb (bO + 1) hBl (fun g hg => (HNE.out g hg).2.1))).trans hfB
          refine hK.out _ _ ⟨(World.cell?_of_block (a := ⟨bD, j * 2, none⟩) (hkb bD (by omega) (fun g hg => (HNE.out g hg).1))).trans g1, (World.cell?_of_block (a := ⟨bD, j * 2 + 1, none⟩) (hkb bD (by omega) (fun g hg => (HNE.out g hg).1))).trans g2, hcB5⟩ (fun hHeld2 => ?_)
          clear hK KK hkb
          obtain ⟨pv', cv', rfl⟩ := owns_form hap.own
          have HAP := Lib.hid hap
          clear hap
          (try simp only [List.getElem_toArray, List.getElem_cons_succ, List.getElem_cons_zero, Act.put, List.setIfInBounds_toArray, List.set_cons_zero, List.set_cons_succ])
          refine anyU_take hh inv (i := 23) (v := ?_) rfl (by decide) (by kernel_rfl) (by kernel_rfl) (fun _ _ _ h => h) (Or.inl ⟨by rfl, ?_⟩) (by assumption) ?_
          rotate_left 1
          · intro w' hSw
            (try dsimp only at hSw)
            go_simp
            (try with_reducible rfl)
          intro inv
          (try simp only [List.getElem_toArray, List.getElem_cons_succ, List.getElem_cons_zero, Act.put, List.setIfInBounds_toArray, List.set_cons_zero, List.set_cons_succ])
          refine ⟨by kernel_rfl, ?_⟩
          gi_wp2
          have HBJ := Lib.hid ((Below.refl wr.heap.size wr).drew)
          have hpb := (HLMJ.out.keep HBJ.out).pushBack (x := k) (o := .cells #[.int .i64 k, .slice pU ws.length cU] 77) (w' := w5) (v' := .slice pv' (nb + 1) cv') (u := .slice pU ws.length cU) (ws := ws) (us := us) htw hu1 (fun i hi => ⟨(HU3.out i hi).1, (HU3.out i hi).2.1.keep HBJ.out, (HU3.out i hi).2.2⟩) ((HG3.out.low (by omega)).keep HBJ.out) HUT.out (by rw [HPV.out, hnb]; exact HAP.out)
          obtain ⟨tg', hlm', hst'⟩ := hpb
          have HLM' := Lib.hid hlm'
          have HST' := Lib.hid hst'
          clear hlm' hst'
          go_wp2_with fail
          go_roundw
          case rel =>
            refine ⟨j + 1, tg', by go_num, by omega, ⟨⟨rhoj, updF BVj tw (.slice pv' (nb + 1) cv'), RVj, ?_⟩, ?_⟩, fun g h1 h2 => ?_, ?_⟩
            · rw [HPS.out, pushW_upd]
              exact HLM'.out
            · exact (HLOWJ.out.trans (HBJ.out.mono (by omega))).trans ((HST'.out.kw.below (n := bO) (by simp; omega) (fun b hb => .inl hb)).mono (Nat.le_refl _))
            · rw [HST'.out.tag g (by simp; omega)]
              exact HTJ.out g h1 h2
            · exact (HKW.out.trans (Kw.all HBJ.out)).trans (HST'.out.kw.mono fun g hg _ => .inr (HTJ.out g hg.1 hg.2))
          case measure => simp [intOf]; omega
        · have hjz : ¬ (j : Int) < ((waysD F k).length : Int) := by omega
          rw [List.take_of_length_le (by omega), ← bbAll_succ] at hlmj
          have HLJ := Lib.hid hlmj
          have hlw : Below w.heap.size w wr := HB0.out.trans (hlowj.mono (by omega))
          obtain ⟨x0, x1, x2, x3, x4, x5, x6, x7, x8, x9⟩ := (HX.out.keep hlowj hbw).all
          obtain ⟨b, off, rfl, hcell⟩ := HPI.out (by omega)
          obtain ⟨lv, hat⟩ := hcell k hlt
          obtain ⟨e0, e1, e2, e3, e4, e5, e6, e7, hll⟩ := hat.keep hlw
          have hre : readsD (F.ins.getD k insZ) = ints (readsN F k) := HSF.out.reads_ints hlt
          have hrl := HLL.out k hlt
          generalize F.ins.getD k insZ = i at e0 e1 e2 e3 e4 e5 e6 e7 hll hre
          obtain ⟨p7, c7, rfl, _, _, _⟩ := ri_form e7
          have HRD := rreads_any i (.slice p7 i.l.length c7) wr e7 hll
          unfold insV at HRD
          rw [hre] at HRD
          replace HRD := Lib.hid HRD
          clear hcell hat hre e7 hlmj hlowj htj hkw
          go_wp2_with (first
            | (go_at_call 26; (with_reducible refine HRD.out.mono ?_); rintro e wE ⟨uE, rfl, hu, hb⟩; obtain ⟨pE, cE, rfl⟩ := own_form hu; rw [ints_len]; have HUE := Lib.hid hu; have HE := Lib.hid hb; clear hu hb x0 x1 x2 x3 x4 x5 x6 x7 x8 x9 e0 e1 e2 e3 e4 e5 e6)
            | fail)
          obtain ⟨wB, rfl⟩ : ∃ wB : World, wB = wr := ⟨_, rfl⟩
          have hsE := HE.out.size
          go_loopw [11] (fun s11 wx => ∃ (j2 : Nat) (tg : Nat → Nat), s11 = .int .i64 j2 ∧ j2 ≤ (readsN F k).length ∧ LvG F s bO bO w1 (k + 1) (bbAll F (k + 1)) (((readsN F k).take j2).foldl (pushR k) (rrAll F k)) tg wx ∧ (∀ g, wB.heap.size ≤ g → g < wE.heap.size → tg g = 0) ∧ Kw (fun g => wB.heap.size ≤ g ∧ g < wE.heap.size) wE wx) (fun s11 _ => (readsN F k).length - (intOf s11).toNat)
          case atStart => exact ⟨0, tgj, rfl, Nat.zero_le _, ⟨⟨rhoj, BVj, RVj, HLJ.out.keep HE.out⟩, HLOWJ.out.trans (HE.out.mono (by omega))⟩, fun g h1 _ => HLJ.out.fresh g h1, Kw.refl _ _⟩
          case round =>
            obtain ⟨j2, tg2, rfl, hj2, ⟨⟨rho2, BV2, RV2, hlm2⟩, hlow2⟩, ht2, hkw2⟩ := hrel
            have hsz2 := hkw2.size
            have HLM2 := Lib.hid hlm2
            have HLOW2 := Lib.hid hlow2
            have HT2 := Lib.hid ht2
            have HKW2 := Lib.hid hkw2
            by_cases hj2l : j2 < (readsN F k).length
            · obtain ⟨bE, oE, rfl, q1⟩ := oi_cell HUE.out (by rw [ints_len]; omega) (k := j2) (by rw [ints_len]; exact hj2l)
              obtain ⟨q, hq⟩ : ∃ q, (readsN F k).getD j2 0 = q := ⟨_, rfl⟩
              rw [ints_getD, hq] at q1
              have hbE : wB.heap.size ≤ bE ∧ bE < wE.heap.size := OW.lt HUE.out rfl
              have g1 := (World.cell?_of_block (a := ⟨bE, oE + j2, none⟩) (hkw2.block bE hbE hbE.2)).trans q1
              have hqm : q ∈ readsN F k := by rw [← hq, List.getD_eq_getElem?_getD, List.getElem?_eq_getElem hj2l]; simp
              have hqr : q < F.regs.toNat := HSF.out.gr.reads_lt k hlt q hqm
              have hqR : q < R := by have := HRE.out; omega
              have hown := hlm2.rrow q hqr
              have htr := hlm2.tred q hqr
              have hcR : wr.cell? ⟨bO + 1 + 1, q, none⟩ = some (RV2 q) := hlm2.red.cell (i := q) (v := RV2 q) (by rw [List.getElem?_map, List.getElem?_range hqr]; rfl)
              have hfR : wr.frozen? ⟨bO + 1 + 1, q, none⟩ = false := hlm2.red.frozen q
              have hBl2 : bO + 1 + 1 < wr.heap.size := hlm2.red.lt
              have htR : tg2 (bO + 1 + 1) = 2 := hlm2.tR
              have HPR := Lib.hid (take_fold hj2l hq (pushR k) (rrAll F k))
              have hl1 := pushR_len k q ((readsN F k).take j2) (rrAll F k)
              have hl2 := rrAll_len (F := F) (M := 2097152) (q := q) k (fun x hx => HLL.out x (by omega))
              rw [List.length_take] at hl1
              obtain ⟨RRj, hRR⟩ : ∃ RRj, ((readsN F k).take j2).foldl (pushR k) (rrAll F k) = RRj := ⟨_, rfl⟩
              rw [hRR] at HLM2 HPR hown hl1
              obtain ⟨nb, hnb⟩ : ∃ nb, (ints (RRj q)).length = nb := ⟨_, rfl⟩
              have hnbl : nb ≤ 4398046511104 := by
                rw [← hnb, ints_len]
                have : 2097152 * k ≤ 2097152 * 1048576 := Nat.mul_le_mul_left _ (by omega)
                omega
              obtain ⟨pv, cv, hpv⟩ := own_form hown
              rw [hnb] at hpv
              have HPV := Lib.hid hpv
              rw [hpv] at hown hcR htr
              have hne : ∀ g, (Value.slice pv nb cv).ownBlock = some g → g ≠ bE ∧ g ≠ bO + 1 + 1 ∧ bO ≤ g := fun g hg => by
                have h1 := htr g hg
                refine ⟨fun e => ?_, fun e => ?_, (OW.lt hown hg).1⟩
                · rw [e, ht2 bE hbE.1 hbE.2] at h1; omega
                · rw [e, htR] at h1; omega
              have HNE := Lib.hid hne
              have HOW := Lib.hid hown
              have HNB := Lib.hid hnb
              have hj2z : (j2 : Int) < ((readsN F k).length : Int) := by omega
              have hqz : (q : Int) < (R : Int) := by omega
              have hbOr : bO ≤ wr.heap.size := by omega
              have z1 : wr.drew.cell? ⟨bE, oE + j2, none⟩ = some (.int .i64 q) := g1
              have z2 : wr.drew.cell? ⟨bO + 1 + 1, q, none⟩ = some (.slice pv nb cv) := hcR
              clear hlm2 hlow2 ht2 hkw2 hown htr htR hl1 hl2 hRR hpv hne hqm hnb q1 hq
              go_wp2_with fail
              refine wp_region_anyU (S := fun w' => w'.cell? ⟨bE, oE + j2, none⟩ = some (.int .i64 q) ∧ w'.cell? ⟨bO + 1 + 1, q, none⟩ = some (.slice pv nb cv)) 16 (by kernel_rfl) ⟨by kernel_rfl, by kernel_rfl, by kernel_rfl, by kernel_rfl, by decide⟩ ⟨z1, z2⟩ ?_
              simp only [List.drop_succ_cons, List.drop_zero]
              intro hh inv hS0
              refine anyU_take hh inv (i := 0) (v := ?_) rfl (by decide) (by kernel_rfl) (by kernel_rfl) (fun _ _ _ h => h) (Or.inl ⟨by rfl, ?_⟩) (by assumption) ?_
              rotate_left 1
              · intro w' hSw
                (try dsimp only at hSw)
                go_simp
                (try with_reducible rfl)
              intro inv
              (try simp only [List.getElem_toArray, List.getElem_cons_succ, List.getElem_cons_zero, Act.put, List.setIfInBounds_toArray, List.set_cons_zero, List.set_cons_succ])
              refine anyU_take hh inv (i := 1) (v := ?_) rfl (by decide) (by kernel_rfl) (by kernel_rfl) (fun _ _ _ h => h) (Or.inl ⟨by rfl, ?_⟩) (by assumption) ?_
              rotate_left 1
              · intro w' hSw
                (try dsimp only at hSw)
                go_simp
                (try with_reducible rfl)
              intro inv
              (try simp only [List.getElem_toArray, List.getElem_cons_succ, List.getElem_cons_zero, Act.put, List.setIfInBounds_toArray, List.set_cons_zero, List.set_cons_succ])
              refine anyU_take hh inv (i := 2) (v := ?_) rfl (by decide) (by kernel_rfl) (by kernel_rfl) (fun _ _ _ h => h) (Or.inl ⟨by rfl, ?_⟩) (by assumption) ?_
              rotate_left 1
              · intro w' hSw
                (try dsimp only at hSw)
                go_simp
                (try with_reducible rfl)
              intro inv
              (try simp only [List.getElem_toArray, List.getElem_cons_succ, List.getElem_cons_zero, Act.put, List.setIfInBounds_toArray, List.set_cons_zero, List.set_cons_succ])
              refine anyU_take hh inv (i := 3) (v := ?_) rfl (by decide) (by kernel_rfl) (by kernel_rfl) (fun _ _ _ h => h) (Or.inl ⟨by rfl, ?_⟩) (by assumption) ?_
              rotate_left 1
              · intro w' hSw
                (try dsimp only at hSw)
                go_simp
                (try with_reducible rfl)
              intro inv
              (try simp only [List.getElem_toArray, List.getElem_cons_succ, List.getElem_cons_zero, Act.put, List.setIfInBounds_toArray, List.set_cons_zero, List.set_cons_succ])
              refine anyU_take hh inv (i := 4) (v := ?_) rfl (by decide) (by kernel_rfl) (by kernel_rfl) (fun _ _ _ h => h) (Or.inl ⟨by rfl, ?_⟩) (by assumption) ?_
              rotate_left 1
              · intro w' hSw
                (try dsimp only at hSw)
                go_simp
                (try with_reducible rfl)
              intro inv
              (try simp only [List.getElem_toArray, List.getElem_cons_succ, List.getElem_cons_zero, Act.put, List.setIfInBounds_toArray, List.set_cons_zero, List.set_cons_succ])
              refine anyU_take hh inv (i := 5) (v := ?_) rfl (by decide) (by kernel_rfl) (by kernel_rfl) (fun _ _ _ h => h) (Or.inl ⟨by rfl, ?_⟩) (by assumption) ?_
              rotate_left 1
              · intro w' hSw
                (try dsimp only at hSw)
                go_simp
                (try with_reducible rfl)
              intro inv
              (try simp only [List.getElem_toArray, List.getElem_cons_succ, List.getElem_cons_zero, Act.put, List.setIfInBounds_toArray, List.set_cons_zero, List.set_cons_succ])
              refine anyU_take hh inv (i := 6) (v := ?_) rfl (by decide) (by kernel_rfl) (by kernel_rfl) (fun _ _ _ h => h) (Or.inl ⟨by rfl, ?_⟩) (by assumption) ?_
              rotate_left 1
              · intro w' hSw
                (try dsimp only at hSw)
                go_simp
                (try with_reducible rfl)
              intro inv
              (try simp only [List.getElem_toArray, List.getElem_cons_succ, List.getElem_cons_zero, Act.put, List.setIfInBounds_toArray, List.set_cons_zero, List.set_cons_succ])
              refine anyU_take hh inv (i := 7) (v := ?_) rfl (by decide) (by kernel_rfl) (by kernel_rfl) (fun _ _ _ h => h) (Or.inl ⟨by rfl, ?_⟩) (by assumption) ?_
              rotate_left 1
              · intro w' hSw
                (try dsimp only at hSw)
                go_simp
                (try with_reducible rfl)
              intro inv
              (try simp only [List.getElem_toArray, List.getElem_cons_succ, List.getElem_cons_zero, Act.put, List.setIfInBounds_toArray, List.set_cons_zero, List.set_cons_succ])
              refine anyU_take hh inv (i := 8) (v := ?_) rfl (by decide) (by kernel_rfl) (by kernel_rfl) (fun _ _ _ h => h) (Or.inl ⟨by rfl, ?_⟩) (by assumption) ?_
              rotate_left 1
              · intro w' hSw
                (try dsimp only at hSw)
                go_simp
                (try with_reducible rfl)
              intro inv
              (try simp only [List.getElem_toArray, List.getElem_cons_succ, List.getElem_cons_zero, Act.put, List.setIfInBounds_toArray, List.set_cons_zero, List.set_cons_succ])
              refine anyU_take hh inv (i := 9) (v := ?_) rfl (by decide) (by kernel_rfl) (by kernel_rfl) (fun _ _ _ h => h) (Or.inl ⟨by rfl, ?_⟩) (by assumption) ?_
              rotate_left 1
              · intro w' hSw
                (try dsimp only at hSw)
                go_simp
                (try with_reducible rfl)
              intro inv
              (try simp only [List.getElem_toArray, List.getElem_cons_succ, List.getElem_cons_zero, Act.put, List.setIfInBounds_toArray, List.set_cons_zero, List.set_cons_succ])
              refine anyU_take hh inv (i := 10) (v := ?_) rfl (by decide) (by kernel_rfl) (by kernel_rfl) (fun _ _ _ h => h) (Or.inl ⟨by rfl, ?_⟩) (by assumption) ?_
              rotate_left 1
              · intro w' hSw
                (try dsimp only at hSw)
                go_simp
                (try with_reducible rfl)
              intro inv
              (try simp only [List.getElem_toArray, List.getElem_cons_succ, List.getElem_cons_zero, Act.put, List.setIfInBounds_toArray, List.set_cons_zero, List.set_cons_succ])
              refine anyU_take hh inv (i := 11) (v := ?_) rfl (by decide) (by kernel_rfl) (by kernel_rfl) (fun _ _ _ h => h) (Or.inl ⟨by rfl, ?_⟩) (by assumption) ?_
              rotate_left 1
              · intro w' hSw
                (try dsimp only at hSw)
                go_simp
                (try with_reducible rfl)
              intro inv
              (try simp only [List.getElem_toArray, List.getElem_cons_succ, List.getElem_cons_zero, Act.put, List.setIfInBounds_toArray, List.set_cons_zero, List.set_cons_succ])
              refine anyU_take hh inv (i := 12) (v := ?_) rfl (by decide) (by kernel_rfl) (by kernel_rfl) (fun _ _ _ h => h) (Or.inl ⟨by rfl, ?_⟩) (by assumption) ?_
              rotate_left 1
              · intro w' hSw
                (try dsimp only at hSw)
                go_simp
                (try with_reducible rfl)
              intro inv
              (try simp only [List.getElem_toArray, List.getElem_cons_succ, List.getElem_cons_zero, Act.put, List.setIfInBounds_toArray, List.set_cons_zero, List.set_cons_succ])
              refine anyU_one inv (i := 13) rfl rfl (by kernel_rfl) (by decide) (fun inv KK hK => ?_)
              go_simp
              refine hK.out _ _ ⟨alloc_cell z1 _, alloc_cell z2 _⟩ (fun hHeld => ?_)
              clear hK KK
              (try simp only [List.getElem_toArray, List.getElem_cons_succ, List.getElem_cons_zero, Act.put, List.setIfInBounds_toArray, List.set_cons_zero, List.set_cons_succ])
              refine anyU_one inv (i := 14) rfl rfl (by kernel_rfl) (by decide) (fun inv KK hK => ?_)
              refine wpIn_appI (.tmp 96) (.tmp 98) rfl Tryd.underlying31 infoInt rfl rfl (v := .slice pv nb cv) (base := bO) (n := nb) (m := 1) (xs := (ints (RRj q)).map (Value.int .i64)) (news := [.int .i64 k]) (by have h := OW.keep HOW.out (((Below.refl _ _).drew).alloc (Nat.le_refl _) (.cells #[.int .i64 k] 3)); unfold OW at h; rw [HNB.out] at h; exact h) rfl (by exact src_one (w := wr.drew) (by simp)) (by simp [Value.oneCell']) (by unfold maxLen; omega) (by omega) (by simp; omega) ?_
              intro v' w5 hap
              have hkb : ∀ b, b < wr.heap.size → (∀ g, (Value.slice pv nb cv).ownBlock = some g → g ≠ b) → w5.heap[b]? = wr.heap[b]? := fun b hb hn => (hap.grown.block b (by simp; omega) (fun e => hn b e.symm rfl)).trans (Below.heap_alloc _ _ _ (by simpa using hb))
              have hcR5 : w5.cell? ⟨bO + 1 + 1, q, none⟩ = some (.slice pv nb cv) := (World.cell?_of_block (a := ⟨bO + 1 + 1, q, none⟩) (hkb (bO + 1 + 1) hBl2 (fun g hg => (HNE.out g hg).2.1))).trans hcR
              have hfR5 : w5.frozen? ⟨bO + 1 + 1, q, none⟩ = false := (World.frozen?_of_block (a := ⟨bO + 1 + 1, q, none⟩) (hkb (bO + 1 + 1) hBl2 (fun g hg => (HNE.out g hg).2.1))).trans hfR
              refine hK.out _ _ ⟨(World.cell?_of_block (a := ⟨bE, oE + j2, none⟩) (hkb bE (by omega) (fun g hg => (HNE.out g hg).1))).trans g1, hcR5⟩ (fun hHeld2 => ?_)
              clear hK KK hkb
              obtain ⟨pv', cv', rfl⟩ := owns_form hap.own
              have HAP := Lib.hid hap
              clear hap
              (try simp only [List.getElem_toArray, List.getElem_cons_succ, List.getElem_cons_zero, Act.put, List.setIfInBounds_toArray, List.set_cons_zero, List.set_cons_succ])
              refine anyU_take hh inv (i := 15) (v := ?_) rfl (by decide) (by kernel_rfl) (by kernel_rfl) (fun _ _ _ h => h) (Or.inl ⟨by rfl, ?_⟩) (by assumption) ?_
              rotate_left 1
              · intro w' hSw
                (try dsimp only at hSw)
                go_simp
                (try with_reducible rfl)
              intro inv
              (try simp only [List.getElem_toArray, List.getElem_cons_succ, List.getElem_cons_zero, Act.put, List.setIfInBounds_toArray, List.set_cons_zero, List.set_cons_succ])
              refine ⟨by kernel_rfl, ?_⟩
              gi_wp2
              have HBJ2 := Lib.hid ((Below.refl wr.heap.size wr).drew)
              have hpb := (HLM2.out.keep HBJ2.out).pushRead (x := k) (o := .cells #[.int .i64 k] 3) (w' := w5) (v' := .slice pv' (nb + 1) cv') hqr (by rw [HPV.out, HNB.out]; exact HAP.out)
              obtain ⟨tg', hlm', hst'⟩ := hpb
              have HLM' := Lib.hid hlm'
              have HST' := Lib.hid hst'
              clear hlm' hst'
              go_wp2_with fail
              go_roundw
              case rel =>
                refine ⟨j2 + 1, tg', by go_num, by omega, ⟨⟨rho2, BV2, updF RV2 q (.slice pv' (nb + 1) cv'), ?_⟩, ?_⟩, fun g h1 h2 => ?_, ?_⟩
                · rw [HPR.out, pushR_upd]
                  exact HLM'.out
                · exact (HLOW2.out.trans (HBJ2.out.mono (by omega))).trans ((HST'.out.kw.below (n := bO) (by simp; omega) (fun b hb => .inl hb)).mono (Nat.le_refl _))
                · rw [HST'.out.tag g (by simp; omega)]
                  exact HT2.out g h1 h2
                · exact (HKW2.out.trans (Kw.all HBJ2.out)).trans (HST'.out.kw.mono fun g hg _ => .inr (HT2.out g hg.1 hg.2))
              case measure => simp [intOf]; omega
            · have hj2z : ¬ (j2 : Int) < ((readsN F k).length : Int) := by omega
              rw [List.take_of_length_le (by omega), ← rrAll_succ] at hlm2
              have HLM3 := Lib.hid hlm2
              clear hlm2 hlow2 ht2 hkw2
              go_wp2_with fail
              go_roundw
              case rel => exact ⟨k + 1, tg2, by go_num, by omega, ⟨⟨rho2, BV2, RV2, HLM3.out⟩, HLOW2.out⟩⟩
              case measure => simp [intOf]; omega
    · obtain rfl : k = F.ins.length := by omega
      have hkz : ¬ ((F.ins.length : Nat) : Int) < (F.ins.length : Int) := by omega
      have hSP0 : SpG F s bO rho wr 0 (List.replicate F.ins.length (List.replicate s 0)) wr := by
        have hgd : ∀ y, y < F.ins.length → (List.replicate F.ins.length (List.replicate s 0)).getD y [] = List.replicate s 0 := fun y hy => by
          rw [List.getD_eq_getElem?_getD, List.getElem?_replicate, if_pos hy]; rfl
        refine ⟨⟨by rw [← outL_all]; exact hlm.out, fun x hx => by rw [hgd x hx]; exact hlm.row x hx⟩, Kw.refl _ _, ⟨by rw [List.length_replicate]; rfl, fun x hx => by rw [hgd x hx, HSE.out]; exact OkW.zero s⟩, fun y hy z hz => (by omega), fun y hy z _ => by rw [hgd y hy]; exact has_zero s z⟩
      have HSP0 := Lib.hid hSP0
      clear hSP0 hlm hlow
      go_wp2_with fail
      obtain ⟨wP, rfl⟩ : ∃ wP : World, wP = wr := ⟨_, rfl⟩
      go_loopw [12] (fun s12 wx => ∃ (q : Nat) (L : List (List Nat)), s12 = .int .i64 q ∧ q ≤ R ∧ SpG F s bO rho wP q L wx) (fun s12 _ => R - (intOf s12).toNat)
      case atStart => exact ⟨0, _, rfl, Nat.zero_le _, HSP0.out⟩
      case round =>
        obtain ⟨q, L, rfl, hq, hsg⟩ := hrel
        have HSG := Lib.hid hsg
        have hlowP : Below bO w1 wr := HLOW.out.trans ((hsg.kw.below (n := bO) (by omega) (fun b hb x hx e => by have := HLM.out.lrow x hx; omega)).mono (by omega))
        have hlwP : Below w.heap.size w wr := HB0.out.trans (hlowP.mono (by omega))
        obtain ⟨x0, x1, x2, x3, x4, x5, x6, x7, x8, x9⟩ := (HX.out.keep hlowP hbw).all
        have HLWP := Lib.hid hlwP
        by_cases hqR : q < R
        · have hqr : q < F.regs.toNat := by have := HRE.out; omega
          have hkt : ∀ g, g < wP.heap.size → tg g ≠ 0 → wr.heap[g]? = wP.heap[g]? := fun g hg ht => hsg.kw.block g (fun x hx e => ht (by rw [e]; exact HLM.out.trow x hx)) hg
          have hcR : wr.cell? ⟨bO + 1 + 1, q, none⟩ = some (RV q) := (World.cell?_of_block (a := ⟨bO + 1 + 1, q, none⟩) (hkt (bO + 2) HLM.out.red.lt (by rw [HLM.out.tR]; omega))).trans (HLM.out.red.cell (i := q) (v := RV q) (by rw [List.getElem?_map, List.getElem?_range hqr]; rfl))
          have hrl := rrAll_len (F := F) (M := 2097152) (q := q) F.ins.length (fun x hx => HLL.out x hx)
          have hrl2 : (rrAll F F.ins.length q).length ≤ 2199023255552 := by
            have : 2097152 * F.ins.length ≤ 2097152 * 1048576 := Nat.mul_le_mul_left _ (by omega)
            omega
          have hri : Ri wr (RV q) (ints (rrAll F F.ins.length q)) := by
            have h1 := HLM.out.rrow q hqr
            have h2 : OI wr bO (RV q) (ints (rrAll F F.ins.length q)) := OW.block h1 fun g hg => hkt g (OW.lt h1 hg).2 (by rw [HLM.out.tred q hqr g hg]; omega)
            exact h2.mine.ri (by rw [ints_len]; omega)
          have hbl3 := blens_all F F.ins.length F.ins.length
          have hS63 := HS63.out
          have hse := HSE.out
          have hSP := spread_any (grOf F) HSF.out.gr (bbAll F F.ins.length) (back_ok F) bO (bO + 1) rho wr L (rrAll F F.ins.length q) (RV q) q 4398046511104 (by rw [hse]; exact hsg.wl) HLM.out.inj
            (fun W hk => HLM.out.sb (hsg.kw.trans hk) (fun y hy p hp => ways_wl (v := (y, p.2)) HSF.out HI.out (((bbAll_mem _).1 hp).1) (((bbAll_mem _).1 hp).2))) hri
            (SInv.start hsg.ok (fun y hy => hsg.hi y hy q (Nat.le_refl _)) (fun y hy => (rrAll_mem _).1 hy) (fun y hy hr => (rrAll_mem _).2 ⟨hy, hr⟩) (by show _ + (blens _ F.ins.length + F.ins.length) ≤ _; omega))
            hqr (show F.regs.toNat ≤ 65536 by omega) (by rw [hse]; show 64 * s < F.regs.toNat + 64 ∧ F.regs.toNat ≤ 64 * s; have := HRE.out; omega) hnn (by omega) (fun y hy => by have := blens_at (BB := bbAll F F.ins.length) F.ins.length hy; omega)
          rw [hse] at hSP
          change Calls _ _ #[.slice (some ⟨bO, 0, none⟩) F.ins.length F.ins.length, .slice (some ⟨bO + 1, 0, none⟩) F.ins.length F.ins.length, RV q, .int .i64 (q : Int)] _ _ at hSP
          obtain ⟨pr, cr, hpr, _, _, _⟩ := ri_form hri
          rw [ints_len] at hpr
          rw [hpr] at hcR hSP
          have HSP := Lib.hid hSP
          have hqz : (q : Int) < F.regs := by have := HRZ.out; omega
          clear hSP hri hsg hlowP hlwP hS63 hse
          go_wp2_with (first
            | (go_at_call 52; (with_reducible refine HSP.out.mono ?_); rintro e wG ⟨⟨vG, rfl⟩, CG, LG, hi9, hw9, hk9⟩; have HI9 := Lib.hid hi9; have HW9 := Lib.hid hw9; have HK9 := Lib.hid hk9; clear hi9 hw9 hk9 x0 x1 x2 x3 x4 x5 x6 x7 x8 x9)
            | fail)
          go_roundw
          case rel =>
            refine ⟨q + 1, LG, by go_num, by omega, HW9.out, HSG.out.kw.trans HK9.out, HI9.out.ok, fun y hy z hz => ?_, fun y hy z hz => ?_⟩
            · by_cases e : z = q
              · subst e
                exact HI9.out.done HSF.out.gr (back_ok F) y hy
              · rw [HI9.out.other y hy z e]
                exact HSG.out.lo y hy z (by omega)
            · rw [HI9.out.other y hy z (by omega)]
              exact HSG.out.hi y hy z (by omega)
          case measure => simp [intOf]; omega
        · have hqz : ¬ (q : Int) < F.regs := by have := HRZ.out; omega
          clear hsg hlowP hlwP
          go_wp2_with fail
          go_ret
          have hll := HSG.out.ok.len
          have hL : L.length = F.ins.length := hll
          refine ⟨_, rfl, L, ?_, HSG.out.ok, fun y hy z => ?_, HLWP.out⟩
          · refine ⟨some ⟨bO, 0, none⟩, F.ins.length, by rw [hL]; rfl, by omega, fun i hi => ⟨bO, 0, .slice (some ⟨rho i, 0, none⟩) s s, rfl, ?_, ?_⟩⟩
            · rw [Nat.zero_add]
              exact HSG.out.wl.out.cell (rowC_at rho (by omega))
            · have hr := HSG.out.wl.row i (by omega)
              have hok := HSG.out.ok.row i (by rw [← hll]; exact hi)
              have hrl : (L.getD i []).length = s := by rw [hok.len]; exact HSE.out
              refine ⟨.inr ⟨rho i, 0, s, by rw [ints_len, hrl], by rw [ints_len, hrl]; exact Nat.le_refl _, by rw [ints_len, hrl]; omega, fun j hj => ?_⟩, hok.lt⟩
              rw [Nat.zero_add, ints_getD]
              exact hr.word (by rw [ints_len] at hj; exact hj)
          · by_cases hz : z < q
            · exact HSG.out.lo y hy z hz
            · rw [← List.getD_eq_getElem?_getD, HSG.out.hi y hy z (by omega)]
              refine ⟨fun h => (by cases h), fun h => ?_⟩
              have h2 := h.lt HSF.out.gr hy
              have : (grOf F).regs = R := HRE.out
              omega
end Go.Proofs.YtnniohimbmnapaaDoor
