/- Layer 12: the law's search for a place that reads a register: where one is live it is found. -/
import Derived.Test.YtnniohimbmnapaaDoorLawPaths
import Derived.Test.YtnniohimbmnapaaDoorDfs
namespace Go.Proofs.YtnniohimbmnapaaDoor
open Go Go.ChangeShapes Go.WideShapes Go.RowKit
set_option linter.unusedVariables false
set_option linter.unusedSimpArgs false
theorem oi_pop {w : World} {B : Nat} {v : Value} {t : List Nat} {y : Nat} (h : OI w B v (ints (t ++ [y]))) : ∃ g c, v = .slice (some ⟨g, 0, none⟩) (t.length + 1) c ∧ OI w B (.slice (some ⟨g, 0, none⟩) t.length c) (ints t) ∧ w.cell? ⟨g, t.length, none⟩ = some (.int .i64 (y : Int)) := by
  have hl : (ints (t ++ [y])).length = t.length + 1 := by rw [ints_len]; simp
  obtain ⟨h1, h2⟩ := h
  rw [hl] at h1 h2
  rcases h2 with ⟨_, h0⟩ | ⟨g, c, cur, rfl, hb, hg, r1, r2, r3, r4⟩
  · omega
  · have e : (ints (t ++ [y])).map (Value.int .i64) = (ints t).map (Value.int .i64) ++ [.int .i64 (y : Int)] := by rw [ints_snoc]; simp
    rw [e] at r4
    refine ⟨g, c, rfl, ⟨by simp [ints_len], .inr ⟨g, c, cur, by rw [ints_len], hb, hg, by rw [ints_len]; omega, r2, r3, ?_⟩⟩, ?_⟩
    · have h3 := congrArg (List.take t.length) r4
      rw [List.take_take, Nat.mul_one, Nat.min_eq_left (by omega), List.take_left' (by simp [ints_len])] at h3
      rw [Nat.mul_one, ints_len]
      exact h3
    · have h3 := congrArg (fun l => l[t.length]?) r4
      simp only [Nat.mul_one] at h3
      rw [List.getElem?_take, if_pos (by omega), List.getElem?_append_right (by simp [ints_len])] at h3
      simp [ints_len] at h3
      simp [World.cell?, hg, h3]
theorem sl_pop (g n c : Nat) (hn : n < c) (wx : World) : (Instr.slice 31 (.slice (some ⟨g, 0, none⟩) (n + 1) c) none (some (.int .i64 (n : Int))) none).run Tryd.prog wx = .ok (.slice (some ⟨g, 0, none⟩) n c) wx := by
  rw [run_slice_h wx 31 _ (n + 1) c Tryd.underlying31 .i64 (n : Int) (by omega) (by omega)]
  have hs : (sizeOf (Tryd.prog.elem 31)).run Tryd.prog wx = .ok 1 wx := by kernel_rfl
  rw [hs]
  simp only [Result.andThen, sliced, Int.toNat_natCast, Nat.sub_zero]
  rw [if_neg (by omega)]
  rfl
def lenV : Value → Nat
  | .slice _ n _ => n
  | _ => 0
def falsesO : Option Obj → Nat
  | some (.cells cs _ _) => cs.toList.countP fun v => match v with | .bool false => true | _ => false
  | _ => 0
theorem falses_blk {A : World} {b : Nat} {l : List Bool} {T : TypeId} (h : Blk A b (l.map Value.bool) T) : falsesO A.heap[b]? = falses l := by
  unfold Blk at h
  rw [h]
  unfold falsesO falses
  simp only [List.countP_map]
  refine List.countP_congr fun x _ => ?_
  cases x <;> simp [Function.comp]
/-- What the rounds of the search hold. -/
structure RdI (F : FuncD) (fr r : Nat) (bS : Nat) (w1 : World) (seen : List Bool) (todo : List Nat) (v8 : Value) (wx : World) : Prop where
  di : DI (grOf F) fr r seen todo
  own : OI wx (bS + 1) v8 (ints todo)
  blk : Blk wx bS (seen.map Value.bool) 4
  low : Below bS w1 wx
theorem way_cell {w : World} {B : Nat} {p : Option Addr} {n c : Nat} {ls : List (Int × List Int)} (h : WO w B (.slice p n c) ls) {k : Nat} (hk : k < ls.length) : ∃ b u, p = some ⟨b, 0, none⟩ ∧ w.cell? ⟨b, k * 2, none⟩ = some (.int .i64 (ls.getD k wayZ).1) ∧ w.cell? ⟨b, k * 2 + 1, none⟩ = some u ∧ OI w B u (ls.getD k wayZ).2 := by
  obtain ⟨p', c', he, hc⟩ := way_form h
  simp only [Value.slice.injEq] at he
  obtain ⟨rfl, _, rfl⟩ := he
  exact hc k hk
theorem take_mem_succ {ws : List Nat} {j x q : Nat} (hj : j < ws.length) (hx : ws.getD j 0 = x) : (q ∈ ws.take (j + 1)) ↔ (q ∈ ws.take j ∨ x = q) := by
  rw [List.getD_eq_getElem?_getD, List.getElem?_eq_getElem hj] at hx
  simp only [Option.getD_some] at hx
  rw [List.take_succ_eq_append_getElem hj, hx]
  simp [eq_comm]
theorem ends_or {t : List Nat} : t = [] ∨ ∃ t0 y, t = t0 ++ [y] := by
  rcases List.eq_nil_or_concat t with h | ⟨t0, y, h⟩
  · exact .inl h
  · exact .inr ⟨t0, y, by rw [h]; simp⟩
set_option maxRecDepth 100000 in
set_option maxHeartbeats 8000000 in
theorem read_yes (r : RestV) (F : FuncD) (iv rv : Value) (fr q : Nat) (w : World) (hU : Us w) (hI : Ii w iv F.ins) (hR : Rg w rv F.regions) (hs : soundB F = true) (hnn : F.ins.length ≤ 1048576) (hf : fr < F.ins.length) (hl : Lv (grOf F) fr q) (hq : q < 65536) :
    Calls Tryd.prog 40 #[funcV r F iv rv, .int .i64 fr, .int .i64 q] w fun e w' => e = .returned (.bool true) ∧ Below w.heap.size w w' := by
  have HWR := rways_any r F iv rv
  obtain ⟨p, c, rfl, _, _, hpi⟩ := ii_form hI
  obtain ⟨p2, c2, rfl, _, _, _⟩ := rg_form hR
  unfold funcV at HWR ⊢
  replace HWR := Lib.hid HWR
  have HPI := Lib.hid hpi
  have HX := Lib.hid (Box10.new w r F (.slice p F.ins.length c) (.slice p2 F.regions.length c2) 27)
  have HB0 := Lib.hid (show Below w.heap.size w (w.alloc (.cells #[.string r.name, .int .i64 F.params, .int .i64 F.regs, .int .i64 r.frees, .bool r.gen, .int .i64 r.bound, .slice r.np r.nn r.nc, .slice r.cp r.cn r.cc, .slice p F.ins.length c, .slice p2 F.regions.length c2] 27)) from by ((repeat' (first | with_reducible assumption | with_reducible exact Below.refl _ _ | with_reducible refine Below.drew ?_ | with_reducible refine Below.alloc ?_ (by first | omega | (simp; omega) | (simp; done) | fail) _ | with_reducible refine Below.setCell ?_ (by first | omega | (simp; omega) | (simp; done) | fail) _ | fail)); (first | done | fail)))
  have HU := Lib.hid hU
  have HI := Lib.hid hI
  have HR := Lib.hid hR
  have HSF := Lib.hid (soundF hs)
  have HLV := Lib.hid hl
  have hmk := fun wx => mk_row (T := 38) Tryd.underlying38 infoBoolL rfl F.ins.length (by omega) (by omega) wx
  clear hU hI hR hpi hs hl
  go_enter Tryd.func40, Tryd.ntmps40
  go_wp2_with fail
  obtain ⟨bS, hbS⟩ : ∃ bS, w.heap.size + 1 = bS := ⟨_, rfl⟩
  generalize hw1 : w.alloc (.cells #[.string r.name, .int .i64 F.params, .int .i64 F.regs, .int .i64 r.frees, .bool r.gen, .int .i64 r.bound, .slice r.np r.nn r.nc, .slice r.cp r.cn r.cc, .slice p F.ins.length c, .slice p2 F.regions.length c2] 27) = w1 at HX HB0
  have hz1 : w1.heap.size = bS := by rw [← hw1, ← hbS]; simp
  have HX1 := Lib.hid (HX.out)
  have HST := Lib.hid (show RdI F fr q bS w1 (List.replicate F.ins.length false) [fr] (.slice (some ⟨bS + 1, 0, none⟩) 1 1) ((w1.alloc (.cells (Array.replicate F.ins.length (.bool false)) 4)).alloc (.cells #[.int .i64 (fr : Int)] 3)) from
    ⟨DI.begin q hf, (own_one (w := w1.alloc (.cells (Array.replicate F.ins.length (.bool false)) 4)) (by simp [hz1]) (by simp [hz1])).low (Nat.le_refl _),
     (by have h := blk_false w1 F.ins.length; rw [hz1] at h; exact h.block (Below.heap_alloc _ _ _ (by simp [hz1]))),
     by rw [← hz1]; ((repeat' (first | with_reducible assumption | with_reducible exact Below.refl _ _ | with_reducible refine Below.drew ?_ | with_reducible refine Below.alloc ?_ (by first | omega | (simp; omega) | (simp; done) | fail) _ | with_reducible refine Below.setCell ?_ (by first | omega | (simp; omega) | (simp; done) | fail) _ | fail)); (first | done | fail))⟩)
  rw [hbS]
  have hbw : w.heap.size < bS := by omega
  go_loopw [8] (fun s8 wx => ∃ seen todo, RdI F fr q bS w1 seen todo s8 wx) (fun s8 wx => 4 * falsesO wx.heap[bS]? + lenV s8)
  case atStart => exact ⟨_, _, HST.out⟩
  case round =>
    obtain ⟨seen, todo, hrd⟩ := hrel
    rcases ends_or (t := todo) with rfl | ⟨t, y, rfl⟩
    · exact absurd HLV.out (hrd.di.none HSF.out.gr hf)
    · obtain ⟨g, cg, rfl, hot, hcy⟩ := oi_pop hrd.own
      have hyn := hrd.di.todo_lt y (by simp)
      have hyn1 : y < F.ins.length := hyn
      have hgb := (OW.lt hrd.own rfl)
      have htb := hrd.di.bound
      have hng : t.length < cg := by
        rcases hrd.own.2 with ⟨h, _⟩ | ⟨g', c', cur, h, _, _, h2, _⟩
        · simp at h
        · simp only [Value.slice.injEq] at h
          obtain ⟨_, h3, rfl⟩ := h
          omega
      obtain ⟨n0, hn0⟩ : ∃ n0, t.length = n0 := ⟨_, rfl⟩
      rw [hn0] at hot hcy hng ⊢
      have htl : n0 ≤ 4194305 := by simp [hn0] at htb; have : (grOf F).n = F.ins.length := rfl; omega
      have hsl := sl_pop g n0 cg hng
      have hbl := hrd.blk.lt
      obtain ⟨d, hd⟩ : ∃ d, seen.getD y true = d := ⟨_, rfl⟩
      have hcd := hrd.blk.bool (i := y) (by rw [hrd.di.len]; exact hyn) hd
      have hfd := hrd.blk.frozen y
      have HRD := Lib.hid hrd
      have HOT := Lib.hid hot
      have HN0 := Lib.hid hn0
      have hyz : (y : Int) < (F.ins.length : Int) := by omega
      clear hn0 htb hot
      cases d with
      | true =>
        have HSK := Lib.hid (hrd.di.skip hd)
        clear hd hrd
        go_wp2_with fail
        go_roundw
        case rel => exact ⟨seen, t, HSK.out, HOT.out, HRD.out.blk, HRD.out.low⟩
        case measure => simp [lenV]
      | false =>
        have HD := Lib.hid hd
        have hlow7 := hrd.low.setCell (p := ⟨bS, y, none⟩) (Nat.le_refl _) (.bool true)
        have hlw7 := (HB0.out.trans (hlow7.mono (by omega)) : Below w.heap.size w (wr.setCell ⟨bS, y, none⟩ (.bool true)))
        obtain ⟨x0, x1, x2, x3, x4, x5, x6, x7, x8, x9⟩ := (HX1.out.keep hlow7 hbw).all
        obtain ⟨b, off, rfl, hcell⟩ := HPI.out (by omega)
        obtain ⟨lv, hat⟩ := hcell y hyn1
        obtain ⟨e0, e1, e2, e3, e4, e5, e6, e7, hll⟩ := hat.keep hlw7
        have hre : readsD (F.ins.getD y insZ) = ints (readsN F y) := HSF.out.reads_ints hyn1
        have hrl := readsD_len (F.ins.getD y insZ)
        generalize F.ins.getD y insZ = i at e0 e1 e2 e3 e4 e5 e6 e7 hll hre hrl
        obtain ⟨p7, c7, rfl, _, _, _⟩ := ri_form e7
        have HRE := rreads_any i (.slice p7 i.l.length c7) (wr.setCell ⟨bS, y, none⟩ (.bool true)) e7 hll
        unfold insV at HRE
        rw [hre] at HRE
        replace HRE := Lib.hid HRE
        have hrn : (readsN F y).length ≤ 17592186044416 := by rw [hre, ints_len] at hrl; omega
        have HBK7 := Lib.hid (hrd.blk.set y (.bool true))
        have HOT7 := Lib.hid (OW.block HOT.out (fun g' hg' => Below.heap_setCell wr ⟨bS, y, none⟩ (.bool true) g' (by have := (OW.lt HOT.out hg').1; dsimp only; omega)))
        have HL7 := Lib.hid hlow7
        have HLW7 := Lib.hid hlw7
        have hs7 : (wr.setCell ⟨bS, y, none⟩ (.bool true)).heap.size = wr.heap.size := by simp
        clear hd hrd hcell hat hre hrl e7 hlow7 hlw7
        go_wp2_with (first
          | (go_at_call 26; (with_reducible refine HRE.out.mono ?_); rintro e wC ⟨uC, rfl, hu, hb⟩; obtain ⟨pC, cC, rfl⟩ := own_form hu; rw [ints_len]; have HUC := Lib.hid hu; have HC := Lib.hid hb; clear hu hb x0 x1 x2 x3 x4 x5 x6 x7 x8 x9 e0 e1 e2 e3 e4 e5 e6)
          | fail)
        have hsC := HC.out.size
        rw [hs7] at hsC
        have HBC := Lib.hid (HBK7.out.block (HC.out.block _ (by rw [hs7]; exact hbl)))
        have HOC := Lib.hid (HOT7.out.keep HC.out)
        have HLC := Lib.hid (HL7.out.trans (HC.out.mono (by rw [hs7]; omega)))
        go_loop [11] (fun s11 => ∃ j : Nat, s11 = .int .i64 j ∧ j ≤ (readsN F y).length ∧ ∀ i, i < j → (readsN F y).getD i 0 ≠ q) (fun s11 => (readsN F y).length - (intOf s11).toNat)
        case atStart => exact ⟨0, rfl, Nat.zero_le _, fun i hi => by omega⟩
        case round =>
          obtain ⟨j, rfl, hj, hno⟩ := hrel
          have HNO := Lib.hid hno
          clear hno
          by_cases hjl : j < (readsN F y).length
          · obtain ⟨bC, oC, rfl, hcC⟩ := oi_cell HUC.out (by rw [ints_len]; exact hrn) (k := j) (by rw [ints_len]; exact hjl)
            obtain ⟨x, hx⟩ : ∃ x, (readsN F y).getD j 0 = x := ⟨_, rfl⟩
            rw [ints_getD, hx] at hcC
            have hjz : (j : Int) < ((readsN F y).length : Int) := by omega
            have HXE := Lib.hid hx
            clear hx
            by_cases hxq : x = q
            · have hxb : ((x : Int) == (q : Int)) = true := by simp [hxq]
              clear hxq
              go_wp2_with fail
              go_ret
              exact ⟨rfl, (HB0.out.trans (HLC.out.mono (by omega)))⟩
            · have hxb : ((x : Int) == (q : Int)) = false := by rw [beq_eq_false_iff_ne]; omega
              have HXQ := Lib.hid hxq
              clear hxq
              go_wp2_with fail
              go_round
              case rel => exact ⟨j + 1, by go_num, by omega, fun i hi => by
                by_cases e : i = j
                · subst e; rw [HXE.out]; exact HXQ.out
                · exact HNO.out i (by omega)⟩
              case measure => simp [intOf]; omega
          · have hjz : ¬ (j : Int) < ((readsN F y).length : Int) := by omega
            have HNR := Lib.hid (show q ∉ (grOf F).reads y from fun hm => by
              obtain ⟨i, hi, hie⟩ := List.getElem_of_mem (show q ∈ readsN F y from hm)
              exact HNO.out i (by omega) (by rw [List.getD_eq_getElem?_getD, List.getElem?_eq_getElem hi, hie]; rfl))
            have HV := Lib.hid (HRD.out.di.visit HSF.out.gr HD.out HNR.out)
            obtain ⟨x0, x1, x2, x3, x4, x5, x6, x7, x8, x9⟩ := (HX1.out.keep HLC.out hbw).all
            have hLWC : Below w.heap.size w wC := HB0.out.trans (HLC.out.mono (by omega))
            have HWY := Lib.hid (HWR.out y wC (HU.out.keep hLWC) (HI.out.keep hLWC) (HR.out.keep hLWC) hyn1)
            clear hLWC
            go_wp2_with (first
              | (go_at_call 20; (with_reducible refine HWY.out.mono ?_); rintro e wD ⟨uD, rfl, hwo, hbD⟩; have HWO := Lib.hid hwo; obtain ⟨pD, cD, rfl, hcD⟩ := way_form hwo; have HBD := Lib.hid hbD; clear hwo hcD hbD x0 x1 x2 x3 x4 x5 x6 x7 x8 x9)
              | fail)
            have hsD := HBD.out.size
            have hpl := pushes_len q (waysN F y)
            have hw3 := waysD_le F y
            have hwlN := waysN_len F y
            go_loopw [8, 13] (fun s8 s13 wx => ∃ (k : Nat) (ls : List Nat), t ++ pushes q ((waysN F y).take k) = ls ∧ s13 = .int .i64 k ∧ k ≤ (waysD F y).length ∧ OI wx (bS + 1) s8 (ints ls) ∧ (∀ g', s8.ownBlock = some g' → g' < wC.heap.size ∨ wD.heap.size ≤ g') ∧ Kw (fun b => b ≤ bS ∨ (wC.heap.size ≤ b ∧ b < wD.heap.size)) wD wx) (fun _ s13 _ => (waysD F y).length - (intOf s13).toNat)
            case atStart => exact ⟨0, t, by simp [pushes], rfl, Nat.zero_le _, by have h := HOC.out.keep HBD.out; exact h, fun g' hg' => .inl (OW.lt HOC.out hg').2, Kw.refl _ _⟩
            case round =>
              obtain ⟨k, ls, hls, rfl, hk, hoi, hpl2, hkw⟩ := hrel
              have hlsl : ls.length ≤ 4194400 := by
                have h1 := pushes_len q ((waysN F y).take k)
                rw [← hls, List.length_append, HN0.out]
                rw [List.length_take] at h1
                omega
              have HLS := Lib.hid hls
              have HOI := Lib.hid hoi
              have HPL := Lib.hid hpl2
              have HKW := Lib.hid hkw
              obtain ⟨pv, cv, rfl⟩ := own_form hoi
              rw [ints_len] at HOI HPL ⊢
              have hsz := hkw.size
              clear hls hpl2 hoi
              by_cases hkl : k < (waysD F y).length
              · obtain ⟨bD, u, rfl, g1, g2, g3⟩ := way_cell (HWO.out.off (w' := wr) fun g' h1 h2 => hkw.block g' (.inr ⟨h1, h2⟩) h2) hkl
                obtain ⟨tw, ws, hwn, hwd, htw, hws⟩ := HSF.out.at_ hyn1 hkl
                rw [hwd] at g1 g3
                obtain ⟨pU, cU, rfl⟩ := own_form g3
                rw [ints_len] at g2 g3
                have hwsl : ws.length ≤ 17592186044416 := by
                  have hmem : ((tw : Int), ints ws) ∈ waysD F y := by
                    rw [← hwd, List.getD_eq_getElem?_getD, List.getElem?_eq_getElem hkl]; simp
                  have h1 := ways_wlen F y _ hmem
                  have h2 := ii_len HI.out hyn1
                  dsimp only at h1
                  rw [ints_len] at h1
                  omega
                have HPS := Lib.hid (show t ++ pushes q ((waysN F y).take (k + 1)) = ls ++ (if q ∈ ws then [] else [tw]) by
                  rw [List.take_succ_eq_append_getElem (by rw [hwlN]; exact hkl), pushes_snoc, ← List.append_assoc, HLS.out]
                  rw [List.getD_eq_getElem?_getD, List.getElem?_eq_getElem (by rw [hwlN]; exact hkl)] at hwn
                  simp only [Option.getD_some] at hwn
                  rw [hwn])
                have HG3 := Lib.hid g3
                have hkz : (k : Int) < ((waysD F y).length : Int) := by omega
                clear hwn hwd hws hkw g3
                go_wp2_with fail
                go_loop [14, 15] (fun s14 s15 => ∃ (j4 : Nat) (ob : Bool), s15 = .int .i64 j4 ∧ s14 = .bool ob ∧ j4 ≤ ws.length ∧ (ob = true ↔ q ∈ ws.take j4)) (fun _ s15 => ws.length - (intOf s15).toNat)
                case atStart => exact ⟨0, false, rfl, rfl, Nat.zero_le _, by simp⟩
                case round =>
                  obtain ⟨j4, ob, rfl, rfl, hj4, hob⟩ := hrel
                  have HOB := Lib.hid hob
                  clear hob
                  by_cases hj4l : j4 < ws.length
                  · obtain ⟨bU, oU, rfl, hcU⟩ := oi_cell HG3.out (by rw [ints_len]; exact hwsl) (k := j4) (by rw [ints_len]; exact hj4l)
                    obtain ⟨x, hx⟩ : ∃ x, ws.getD j4 0 = x := ⟨_, rfl⟩
                    rw [ints_getD, hx] at hcU
                    have HT := Lib.hid (take_mem_succ (q := q) hj4l hx)
                    have hj4z : (j4 : Int) < (ws.length : Int) := by omega
                    clear hx
                    cases ob with
                    | true =>
                      go_wp2_with fail
                      go_round
                      case rel => exact ⟨j4 + 1, true, by go_num, rfl, by omega, by rw [HT.out]; exact ⟨fun _ => .inl (HOB.out.1 rfl), fun _ => rfl⟩⟩
                      case measure => simp [intOf]; omega
                    | false =>
                      have HNM := Lib.hid (show ¬ q ∈ ws.take j4 from fun h => by have := HOB.out.2 h; cases this)
                      by_cases hxq : x = q
                      · have hxb : ((x : Int) == (q : Int)) = true := by simp [hxq]
                        have HXQ := Lib.hid hxq
                        clear hxq
                        go_wp2_with fail
                        go_round
                        case rel => exact ⟨j4 + 1, true, by go_num, rfl, by omega, by rw [HT.out]; exact ⟨fun _ => .inr HXQ.out, fun _ => rfl⟩⟩
                        case measure => simp [intOf]; omega
                      · have hxb : ((x : Int) == (q : Int)) = false := by rw [beq_eq_false_iff_ne]; omega
                        have HXQ := Lib.hid hxq
                        clear hxq
                        go_wp2_with fail
                        go_round
                        case rel => exact ⟨j4 + 1, false, by go_num, rfl, by omega, by rw [HT.out]; exact ⟨fun h => (by cases h), fun h => (h.elim HNM.out HXQ.out).elim⟩⟩
                        case measure => simp [intOf]; omega
                  · have hj4z : ¬ (j4 : Int) < (ws.length : Int) := by omega
                    have HMM := Lib.hid (show ob = true ↔ q ∈ ws by have h := HOB.out; rwa [List.take_of_length_le (by omega)] at h)
                    cases ob with
                    | true =>
                      have HMT := Lib.hid (HMM.out.1 rfl)
                      go_wp2_with fail
                      go_roundw
                      case rel => exact ⟨k + 1, ls, by rw [HPS.out, if_pos HMT.out, List.append_nil], by go_num, by omega, HOI.out, HPL.out, HKW.out⟩
                      case measure => simp [intOf]; omega
                    | false =>
                      have HMT := Lib.hid (show ¬ q ∈ ws from fun h => by have := HMM.out.2 h; cases this)
                      go_wp2_with (first
                        | (at_builtin; refine wpList_app rfl (.tmp 95) (.tmp 101) rfl Tryd.underlying31 infoInt rfl rfl (v := .slice pv ls.length cv) (base := bS + 1) (n := ls.length) (m := 1) (xs := (ints ls).map (Value.int .i64)) (news := [.int .i64 (tw : Int)]) (by have h := OW.keep HOI.out ((Below.refl _ _).alloc (Nat.le_refl _) (.cells #[.int .i64 (tw : Int)] 3)); unfold OW at h; rw [ints_len] at h; exact h) rfl (src_one rfl) (by simp [Value.oneCell']) (by unfold maxLen; omega) (by omega) (by simp; omega) ?_; intro v' w5 hap; have HAP := Lib.hid hap; clear hap)
                        | fail)
                      have hown : OI w5 (bS + 1) v' (ints (ls ++ [tw])) := by
                        have h := own_apd (ws := ints ls) (x := (tw : Int)) (by rw [ints_len]; exact HAP.out)
                        rwa [← ints_snoc] at h
                      have HOW := Lib.hid hown
                      obtain ⟨pv', cv', rfl⟩ := own_form hown
                      clear hown
                      go_wp2_with fail
                      go_roundw
                      case rel => exact ⟨k + 1, ls ++ [tw], by rw [HPS.out, if_neg HMT.out], by go_num, by omega, HOW.out, fun g' hg' => by
                        rcases HAP.out.at_ with e | e
                        · rw [e] at hg'
                          exact HPL.out g' hg'
                        · rw [hg'] at e
                          simp at e
                          exact .inr (by omega), (HKW.out.alloc _).grown HAP.out.grown (fun g' hg' hK => by
                          have h1 := (OW.lt HOI.out hg').1
                          rcases HPL.out g' hg' with h2 | h2 <;> omega)⟩
                      case measure => simp [intOf]; omega
              · have hkz : ¬ (k : Int) < ((waysD F y).length : Int) := by omega
                have hke : (waysN F y).take k = waysN F y := List.take_of_length_le (by omega)
                have HLE := Lib.hid (show t ++ pushes q (waysN F y) = ls by have h := HLS.out; rwa [hke] at h)
                have hf1 := HV.out.2
                have hm1 : falses (seen.set y true) + 1 = falses seen := hf1
                have HF0 := Lib.hid (falses_blk HRD.out.blk)
                have hbk9 : Blk wr bS ((seen.set y true).map Value.bool) 4 := by
                  have h := (HBC.out.block (HBD.out.block _ (by omega))).block (hkw.block bS (.inl (Nat.le_refl _)) (by omega))
                  rwa [← List.map_set] at h
                have HBK9 := Lib.hid hbk9
                have HF9 := Lib.hid (falses_blk hbk9)
                have HM1 := Lib.hid hm1
                have HLW9 := Lib.hid (show Below bS w1 wr from (HLC.out.trans (HBD.out.mono (by omega))).trans (hkw.below (by omega) (fun b hb => .inl (by omega))))
                have hlen9 : ls.length ≤ n0 + 3 := by
                  rw [← HLE.out, List.length_append, HN0.out]
                  omega
                clear hke hf1 hm1 hbk9 hkw
                go_wp2_with fail
                go_roundw
                case rel => exact ⟨seen.set y true, ls, by have h : DI (grOf F) fr q (seen.set y true) (t ++ pushes q (waysN F y)) := HV.out.1; rwa [HLE.out] at h, HOI.out, HBK9.out, HLW9.out⟩
                case measure => rw [HF9.out, HF0.out]; simp only [lenV]; have := HM1.out; omega
end Go.Proofs.YtnniohimbmnapaaDoor
