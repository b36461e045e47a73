/- Layer 10: the statement on an instruction that does nothing: the walk. -/
import Derived.Test.YtnniohimbmnapaaDoorK10
import Derived.Test.YtnniohimbmnapaaDoorFBits
import Derived.Test.YtnniohimbmnapaaDoorCopyF
import Derived.Test.YtnniohimbmnapaaDoorLessF
import Derived.Test.YtnniohimbmnapaaDoorLessPut
import Derived.Test.YtnniohimbmnapaaDoorFRef
import Derived.Deep.QuietTactic
import Derived.BigQuiet
import Derived.WalkSmall
namespace Go.Proofs.YtnniohimbmnapaaDoor
open Go Go.ChangeShapes Go.WideShapes Go.RowKit
set_option linter.unusedVariables false
set_option linter.unusedSimpArgs false
theorem box_al2 {w : World} {g : Nat} {r : RestV} {F : FuncD} {iv rv : Value} (h : Box10 w g r F iv rv) (o : Obj) : Box10 (w.alloc o) g r F iv rv := h.keep ((Below.refl w.heap.size w).alloc (Nat.le_refl _) o) (World.block_lt_of_cell? _ _ h.c0)
theorem io_open {w : World} {B : Nat} {v : Value} {is : List InsD} (h : IO w B v is) (h0 : 0 < is.length) : ∃ g c, v = .slice (some ⟨g, 0, none⟩) is.length c ∧ B ≤ g ∧ g < w.heap.size ∧ ∀ o, w.frozen? ⟨g, o, none⟩ = false := by
  obtain ⟨us, h1, h2, h3⟩ := h
  rcases h2.2 with ⟨rfl, h4⟩ | ⟨g, c, cur, rfl, hg, r1, r2, r3, r4, r5⟩
  · omega
  · exact ⟨g, c, rfl, hg, (Array.getElem?_eq_some_iff.1 r1).1, fun o => by simp [World.frozen?, r1]⟩
theorem ii_at0 {w : World} {g c : Nat} {is : List InsD} (h : Ii w (.slice (some ⟨g, 0, none⟩) is.length c) is) {x : Nat} (hx : x < is.length) : ∃ lv, At7 w g (x * 7) (is.getD x insZ) lv := by
  rcases h with ⟨p, he, rfl⟩ | ⟨b, off, c', he, h1, h2, h3⟩
  · simp at hx
  · simp only [Value.slice.injEq, Option.some.injEq, Addr.mk.injEq, and_true, true_and] at he
    obtain ⟨⟨rfl, rfl⟩, rfl⟩ := he
    obtain ⟨lv, h⟩ := h3 x hx
    rw [Nat.zero_add] at h
    exact ⟨lv, h⟩
theorem box_off2 {w w' : World} {g : Nat} {r : RestV} {F : FuncD} {iv rv : Value} (h : Box10 w g r F iv rv) (hb : w'.heap[g]? = w.heap[g]?) : Box10 w' g r F iv rv :=
  have e : ∀ j, w'.cell? ⟨g, j, none⟩ = w.cell? ⟨g, j, none⟩ := fun j => World.cell?_of_block (a := ⟨g, j, none⟩) hb
  ⟨(e 0).trans h.c0, (e 1).trans h.c1, (e 2).trans h.c2, (e 3).trans h.c3, (e 4).trans h.c4, (e 5).trans h.c5, (e 6).trans h.c6, (e 7).trans h.c7, (e 8).trans h.c8, (e 9).trans h.c9⟩
theorem wrap_nat2 (z : Int) : ∃ zu : Nat, IntKind.u64.wrap z = (zu : Int) ∧ zu < 18446744073709551616 := by
  refine ⟨(z % 18446744073709551616).toNat, ?_, by omega⟩
  rw [show ((z % 18446744073709551616).toNat : Int) = z % 18446744073709551616 by omega]
  simp [IntKind.wrap, IntKind.signed, IntKind.bits]
set_option maxRecDepth 100000 in
set_option maxHeartbeats 2000000 in
theorem holds_any (u : Value) (l : List Int) (n : Int) (w : World) (h : Ri w u l) :
    Calls Tryd.prog 30 #[u, .int .i64 n] w fun e w' => e = .returned (.bool (decide (n ∈ l))) ∧ w = w' := by
  obtain ⟨p, c, rfl, hc, hm, hp⟩ := ri_form h
  have HP := Lib.hid hp
  clear hp h
  go_enter Tryd.func30, Tryd.ntmps30
  go_wp2_with fail
  go_loop [5] (fun s => ∃ i : Nat, s = .int .i64 i ∧ i ≤ l.length ∧ ∀ j, j < i → l.getD j 0 ≠ n) (fun s => l.length - (intOf s).toNat)
  case atStart => exact ⟨0, rfl, Nat.zero_le _, fun j hj => by omega⟩
  case round =>
    obtain ⟨i, rfl, hi, hno⟩ := hrel
    have HN := Lib.hid hno
    clear hno
    by_cases hlt : i < l.length
    · obtain ⟨b, off, rfl, hcell⟩ := HP.out (by omega)
      have hci := hcell i hlt
      obtain ⟨x, hx⟩ : ∃ x, l.getD i 0 = x := ⟨_, rfl⟩
      rw [hx] at hci
      have HX := Lib.hid hx
      have hlz : (i : Int) < (l.length : Int) := by omega
      clear hcell hx
      by_cases e : x = n
      · have he : (x == n) = true := by simp [e]
        have HY := Lib.hid (show decide (n ∈ l) = true by
          rw [decide_eq_true_eq, ← e, ← HX.out, List.getD_eq_getElem?_getD, List.getElem?_eq_getElem hlt]
          exact List.getElem_mem hlt)
        clear e
        go_wp2_with fail
        go_ret
        exact ⟨ret_b HY.out.symm, rfl⟩
      · have he : (x == n) = false := by simp [e]
        have HE := Lib.hid e
        clear e
        go_wp2_with fail
        go_round
        case rel => exact ⟨i + 1, by go_num, by omega, fun j hj => by
          by_cases e : j = i
          · subst e; rw [HX.out]; exact HE.out
          · exact HN.out j (by omega)⟩
        case measure => simp [intOf]; omega
    · have hlz : ¬ (i : Int) < (l.length : Int) := by omega
      have HY := Lib.hid (show decide (n ∈ l) = false by
        rw [decide_eq_false_iff_not]
        intro hm
        obtain ⟨j, hj, e⟩ := List.mem_iff_getElem.1 hm
        refine HN.out j (by omega) ?_
        rw [List.getD_eq_getElem?_getD, List.getElem?_eq_getElem hj]
        exact e)
      go_wp2_with fail
      go_ret
      exact ⟨ret_b HY.out.symm, rfl⟩
set_option maxRecDepth 100000 in
set_option maxHeartbeats 16000000 in
theorem law_less (r : RestV) (F : FuncD) (iv rv : Value) (nx cx : List Value) (at_ : Int) (w : World) (hU : Us w) (hI : Ii w iv F.ins) (hR : Rg w rv F.regions) (hN : Nm w r nx) (hC : Cn w r cx) (hnn : F.ins.length ≤ 1048576) (hnr : F.regions.length ≤ 1048576) (hll : ∀ i, i < F.ins.length → (F.ins.getD i insZ).l.length ≤ 1048576) :
    Calls Tryd.prog 7 #[funcV r F iv rv, .int .i64 at_] w fun e w' => e = .returned (.bool true) ∧ Below w.heap.size w w' := by
  have HLY := fun w hU hI hR => live_rd r F iv rv w hU hI hR hnn
  have HCF := fun w hI hR hN hC => copyf_any2 r F iv rv nx cx w hI hR hN hC hnn hnr hll
  obtain ⟨p, c, rfl, hc, hm, hp⟩ := ii_form hI
  obtain ⟨p2, c2, rfl, _, _, _⟩ := rg_form hR
  unfold funcV at HLY HCF ⊢
  replace HLY := Lib.hid HLY
  replace HCF := Lib.hid HCF
  have HX := Lib.hid (Box10.new w r F (.slice p F.ins.length c) (.slice p2 F.regions.length c2) 27)
  have HB0 := Lib.hid (show Below w.heap.size w (w.alloc (.cells #[.string r.name, .int .i64 F.params, .int .i64 F.regs, .int .i64 r.frees, .bool r.gen, .int .i64 r.bound, .slice r.np r.nn r.nc, .slice r.cp r.cn r.cc, .slice p F.ins.length c, .slice p2 F.regions.length c2] 27)) from by ((repeat' (first | with_reducible assumption | with_reducible exact Below.refl _ _ | with_reducible refine Below.drew ?_ | with_reducible refine Below.alloc ?_ (by first | omega | (simp; omega) | (simp; done) | fail) _ | with_reducible refine Below.setCell ?_ (by first | omega | (simp; omega) | (simp; done) | fail) _ | fail)); (first | done | fail)))
  have HU := Lib.hid hU
  have HI := Lib.hid hI
  have HR := Lib.hid hR
  have HN := Lib.hid hN
  have HC := Lib.hid hC
  have HLL := Lib.hid hll
  have HP := Lib.hid hp
  clear hU hI hR hN hC hll hp
  go_enter Tryd.func7, Tryd.ntmps7
  go_wp2_with (first
    | (go_at_call 14; (with_reducible refine (known10 _ (HU.out.keep (by ((repeat' (first | with_reducible assumption | with_reducible exact Below.refl _ _ | with_reducible refine Below.drew ?_ | with_reducible refine Below.alloc ?_ (by first | omega | (simp; omega) | (simp; done) | fail) _ | with_reducible refine Below.setCell ?_ (by first | omega | (simp; omega) | (simp; done) | fail) _ | fail)); (first | done | fail))))).mono ?_); rintro e wA ⟨rfl, hb⟩; have HA := Lib.hid (HB0.out.trans (hb.mono (by simp))); have HXA := Lib.hid (HX.out.keep hb (by simp)); obtain ⟨x0, x1, x2, x3, x4, x5, x6, x7, x8, x9⟩ := HXA.out; clear hb)
    | fail)
  have HLA := Lib.hid (HLY.out wA (HU.out.keep HA.out) (HI.out.keep HA.out) (HR.out.keep HA.out))
  cases hs : soundB F with
  | false =>
    unfold LiveR at HLA
    rw [hs] at HLA
    clear hs
    go_wp2_with (first
      | (go_at_call 23; (with_reducible refine HLA.out.mono ?_); intro e wB hpost; rw [if_neg (by simp)] at hpost; obtain ⟨rfl, hb⟩ := hpost; have HB := Lib.hid (HA.out.trans (hb.mono HA.out.size)); clear hb)
      | fail)
    go_ret
    exact ⟨rfl, HB.out⟩
  | true =>
    unfold LiveR at HLA
    rw [hs] at HLA
    have HSF := Lib.hid (soundF hs)
    have HSS := Lib.hid hs
    clear hs
    have hr0 := HSF.out.r0
    have hr1 := HSF.out.r1
    obtain ⟨zf, hzf, hzfl⟩ := wrap_nat2 at_
    have hnp := HSF.out.pos
    have hn0 : ((F.ins.length : Int) == 0) = false := by rw [beq_eq_false_iff_ne]; omega
    have hf1 : zf % F.ins.length < F.ins.length := Nat.mod_lt _ hnp
    have hxf : (zf : Int) % (F.ins.length : Int) = ((zf % F.ins.length : Nat) : Int) := by omega
    obtain ⟨x, hx⟩ : ∃ x, zf % F.ins.length = x := ⟨_, rfl⟩
    rw [hx] at hf1 hxf
    clear hx
    obtain ⟨bI, oI, rfl, hcell⟩ := HP.out hnp
    obtain ⟨lv, hat⟩ := hcell x hf1
    have hl1 := HLL.out x hf1
    obtain ⟨ik, hik⟩ : ∃ ik, F.ins.getD x insZ = ik := ⟨_, rfl⟩
    rw [hik] at hat hl1
    have HIK := Lib.hid hik
    have HAT := Lib.hid hat
    clear hcell hat hik
    have hlf := ri_form HAT.out.2.2.2.2.2.2.2.1
    obtain ⟨p7, c7, rfl, _, _, _⟩ := hlf
    have hxz : (x : Int) < (F.ins.length : Int) := by omega
    by_cases h18 : ik.op = 18
    · have hq : (ik.op == 18) = true := by simp [h18]
      go_wp2_with (first
        | (go_at_call 23; (with_reducible refine HLA.out.mono ?_); intro e wB hpost; rw [if_pos rfl] at hpost; obtain ⟨vL, L, rfl, hLr, hok, hlv, hb⟩ := hpost; have HB := Lib.hid (HA.out.trans (hb.mono HA.out.size)); have HXB := Lib.hid (HXA.out.keep hb (World.block_lt_of_cell? _ _ HXA.out.c0)); obtain ⟨pL, cL, rfl, hLl, hLc⟩ := hLr; rw [show L.length = F.ins.length from hok.len] at hLc ⊢; have HLC := Lib.hid hLc; have HOK := Lib.hid hok; have HLV := Lib.hid hlv; obtain ⟨y0, y1, y2, y3, y4, y5, y6, y7, y8, y9⟩ := HXB.out; have HXE := Lib.hid (box_al2 HXB.out (.cells #[.int .i64 ik.op, .int .i64 ik.d, .int .i64 ik.a, .int .i64 ik.b, .int .i64 ik.t, .int .i64 ik.k, .slice p7 ik.l.length c7] 50)); obtain ⟨z0, z1, z2, z3, z4, z5, z6, z7, z8, z9⟩ := HXE.out; obtain ⟨e0, e1, e2, e3, e4, e5, e6, e7, hll⟩ := HAT.out.keep HB.out; clear hb hLl hLc hok hlv e7)
        | fail)
      go_ret
      exact ⟨rfl, HB.out.alloc HB.out.size _⟩
    have hq18 : (ik.op == 18) = false := by simp [h18]
    by_cases h41 : ik.op = 41
    · have hq : (ik.op == 41) = true := by simp [h41]
      go_wp2_with (first
        | (go_at_call 23; (with_reducible refine HLA.out.mono ?_); intro e wB hpost; rw [if_pos rfl] at hpost; obtain ⟨vL, L, rfl, hLr, hok, hlv, hb⟩ := hpost; have HB := Lib.hid (HA.out.trans (hb.mono HA.out.size)); have HXB := Lib.hid (HXA.out.keep hb (World.block_lt_of_cell? _ _ HXA.out.c0)); obtain ⟨pL, cL, rfl, hLl, hLc⟩ := hLr; rw [show L.length = F.ins.length from hok.len] at hLc ⊢; have HLC := Lib.hid hLc; have HOK := Lib.hid hok; have HLV := Lib.hid hlv; obtain ⟨y0, y1, y2, y3, y4, y5, y6, y7, y8, y9⟩ := HXB.out; have HXE := Lib.hid (box_al2 HXB.out (.cells #[.int .i64 ik.op, .int .i64 ik.d, .int .i64 ik.a, .int .i64 ik.b, .int .i64 ik.t, .int .i64 ik.k, .slice p7 ik.l.length c7] 50)); obtain ⟨z0, z1, z2, z3, z4, z5, z6, z7, z8, z9⟩ := HXE.out; obtain ⟨e0, e1, e2, e3, e4, e5, e6, e7, hll⟩ := HAT.out.keep HB.out; clear hb hLl hLc hok hlv e7)
        | fail)
      go_ret
      exact ⟨rfl, HB.out.alloc HB.out.size _⟩
    have hq41 : (ik.op == 41) = false := by simp [h41]
    by_cases h42 : ik.op = 42
    · have hq : (ik.op == 42) = true := by simp [h42]
      go_wp2_with (first
        | (go_at_call 23; (with_reducible refine HLA.out.mono ?_); intro e wB hpost; rw [if_pos rfl] at hpost; obtain ⟨vL, L, rfl, hLr, hok, hlv, hb⟩ := hpost; have HB := Lib.hid (HA.out.trans (hb.mono HA.out.size)); have HXB := Lib.hid (HXA.out.keep hb (World.block_lt_of_cell? _ _ HXA.out.c0)); obtain ⟨pL, cL, rfl, hLl, hLc⟩ := hLr; rw [show L.length = F.ins.length from hok.len] at hLc ⊢; have HLC := Lib.hid hLc; have HOK := Lib.hid hok; have HLV := Lib.hid hlv; obtain ⟨y0, y1, y2, y3, y4, y5, y6, y7, y8, y9⟩ := HXB.out; have HXE := Lib.hid (box_al2 HXB.out (.cells #[.int .i64 ik.op, .int .i64 ik.d, .int .i64 ik.a, .int .i64 ik.b, .int .i64 ik.t, .int .i64 ik.k, .slice p7 ik.l.length c7] 50)); obtain ⟨z0, z1, z2, z3, z4, z5, z6, z7, z8, z9⟩ := HXE.out; obtain ⟨e0, e1, e2, e3, e4, e5, e6, e7, hll⟩ := HAT.out.keep HB.out; clear hb hLl hLc hok hlv e7)
        | fail)
      go_ret
      exact ⟨rfl, HB.out.alloc HB.out.size _⟩
    have hq42 : (ik.op == 42) = false := by simp [h42]
    by_cases hn : x + 1 = F.ins.length
    · have hq : ((x : Int) == (F.ins.length : Int) - 1) = true := by rw [beq_iff_eq]; omega
      go_wp2_with (first
        | (go_at_call 23; (with_reducible refine HLA.out.mono ?_); intro e wB hpost; rw [if_pos rfl] at hpost; obtain ⟨vL, L, rfl, hLr, hok, hlv, hb⟩ := hpost; have HB := Lib.hid (HA.out.trans (hb.mono HA.out.size)); have HXB := Lib.hid (HXA.out.keep hb (World.block_lt_of_cell? _ _ HXA.out.c0)); obtain ⟨pL, cL, rfl, hLl, hLc⟩ := hLr; rw [show L.length = F.ins.length from hok.len] at hLc ⊢; have HLC := Lib.hid hLc; have HOK := Lib.hid hok; have HLV := Lib.hid hlv; obtain ⟨y0, y1, y2, y3, y4, y5, y6, y7, y8, y9⟩ := HXB.out; have HXE := Lib.hid (box_al2 HXB.out (.cells #[.int .i64 ik.op, .int .i64 ik.d, .int .i64 ik.a, .int .i64 ik.b, .int .i64 ik.t, .int .i64 ik.k, .slice p7 ik.l.length c7] 50)); obtain ⟨z0, z1, z2, z3, z4, z5, z6, z7, z8, z9⟩ := HXE.out; obtain ⟨e0, e1, e2, e3, e4, e5, e6, e7, hll⟩ := HAT.out.keep HB.out; clear hb hLl hLc hok hlv e7)
        | fail)
      go_ret
      exact ⟨rfl, HB.out.alloc HB.out.size _⟩
    have HNS := Lib.hid (noF_sound (x := x) HSS.out (by omega) hnn)
    unfold noF at HNS
    have hqn : ((x : Int) == (F.ins.length : Int) - 1) = false := by rw [beq_eq_false_iff_ne]; omega
    go_wp2_with (first
      | (go_at_call 23; (with_reducible refine HLA.out.mono ?_); intro e wB hpost; rw [if_pos rfl] at hpost; obtain ⟨vL, L, rfl, hLr, hok, hlv, hb⟩ := hpost; have HB := Lib.hid (HA.out.trans (hb.mono HA.out.size)); have HXB := Lib.hid (HXA.out.keep hb (World.block_lt_of_cell? _ _ HXA.out.c0)); obtain ⟨pL, cL, rfl, hLl, hLc⟩ := hLr; rw [show L.length = F.ins.length from hok.len] at hLc ⊢; have HLC := Lib.hid hLc; have HOK := Lib.hid hok; have HLV := Lib.hid hlv; obtain ⟨y0, y1, y2, y3, y4, y5, y6, y7, y8, y9⟩ := HXB.out; have HXE := Lib.hid (box_al2 HXB.out (.cells #[.int .i64 ik.op, .int .i64 ik.d, .int .i64 ik.a, .int .i64 ik.b, .int .i64 ik.t, .int .i64 ik.k, .slice p7 ik.l.length c7] 50)); obtain ⟨z0, z1, z2, z3, z4, z5, z6, z7, z8, z9⟩ := HXE.out; obtain ⟨e0, e1, e2, e3, e4, e5, e6, e7, hll⟩ := HAT.out.keep HB.out; clear hb hLl hLc hok hlv e7)
      | (go_at_call 28; (with_reducible refine (HCF.out (wB.alloc (.cells #[.int .i64 ik.op, .int .i64 ik.d, .int .i64 ik.a, .int .i64 ik.b, .int .i64 ik.t, .int .i64 ik.k, .slice p7 ik.l.length c7] 50)) (HI.out.keep (HB.out.alloc HB.out.size _)) (HR.out.keep (HB.out.alloc HB.out.size _)) (HN.out.keep (HB.out.alloc HB.out.size _)) (HC.out.keep (HB.out.alloc HB.out.size _))).mono ?_); rintro e wC ⟨⟨name', frees', gen', bound', np', nn', nc', cp', cn', cc'⟩, ivc, rvc, rfl, en, ef, eg, eb, enn, ecn, hN', hC', hR', hIO, hb, hRO⟩; dsimp only at en ef eg eb enn ecn; subst en ef eg eb enn ecn; obtain ⟨g, cI, rfl, hgB, hgl, hgf⟩ := io_open hIO hnp; obtain ⟨pR, cR, rfl, _, _, _⟩ := rg_form hR'; unfold funcV; dsimp only; have hal := (Below.refl wC.heap.size wC).alloc (Nat.le_refl _) (.cells #[.string r.name, .int .i64 F.params, .int .i64 F.regs, .int .i64 r.frees, .bool r.gen, .int .i64 r.bound, .slice np' r.nn nc', .slice cp' r.cn cc', .slice (some ⟨g, 0, none⟩) F.ins.length cI, .slice pR F.regions.length cR] 27); have HC1 := Lib.hid ((HB.out.alloc HB.out.size (.cells #[.int .i64 ik.op, .int .i64 ik.d, .int .i64 ik.a, .int .i64 ik.b, .int .i64 ik.t, .int .i64 ik.k, .slice p7 ik.l.length c7] 50)).trans (hb.mono (HB.out.alloc HB.out.size (.cells #[.int .i64 ik.op, .int .i64 ik.d, .int .i64 ik.a, .int .i64 ik.b, .int .i64 ik.t, .int .i64 ik.k, .slice p7 ik.l.length c7] 50)).size)); have HBC := Lib.hid hb; have HY1 := Lib.hid (Box10.new wC ⟨r.name, r.frees, r.gen, r.bound, np', r.nn, nc', cp', r.cn, cc'⟩ F (.slice (some ⟨g, 0, none⟩) F.ins.length cI) (.slice pR F.regions.length cR) 27); obtain ⟨t0, t1, t2, t3, t4, t5, t6, t7, t8, t9⟩ := HY1.out; dsimp only at t0 t1 t2 t3 t4 t5 t6 t7 t8 t9; have HIO := Lib.hid (hIO.keep hal); have HR1 := Lib.hid (hR'.keep hal); have HGB := Lib.hid hgB; have HGL := Lib.hid hgl; have hgf1 := fun o => (hal.frozen (p := ⟨g, o, none⟩) hgl).trans (hgf o); obtain ⟨lx, m0, m1, m2, m3, m4, m5, m6, _, _⟩ := ii_at0 (HIO.out.ii (Nat.le_trans hnn (by omega)) (fun i hi => Nat.le_trans (HLL.out i hi) (by omega))) hf1; have g0 := hgf1 (x * 7); have g1 := hgf1 (x * 7 + 1); have g2 := hgf1 (x * 7 + 2); have g3 := hgf1 (x * 7 + 3); have g4 := hgf1 (x * 7 + 4); have g5 := hgf1 (x * 7 + 5); have g6 := hgf1 (x * 7 + 6); have hbx := box_off2 HY1.out (put_block (g := g) (o := x * 7) (show wC.heap.size ≠ g from (by omega))); have hii := io_put (hIO.keep hal) hf1 (Nat.le_trans hnn (by omega)) (fun i hi => Nat.le_trans (HLL.out i hi) (by omega)); have hrg := rg_put (o := x * 7) (hIO.keep hal) (ownS_keep hRO hal) (Nat.le_trans hnr (by omega)); have hput := put_below (w := wC.alloc (.cells #[.string r.name, .int .i64 F.params, .int .i64 F.regs, .int .i64 r.frees, .bool r.gen, .int .i64 r.bound, .slice np' r.nn nc', .slice cp' r.cn cc', .slice (some ⟨g, 0, none⟩) F.ins.length cI, .slice pR F.regions.length cR] 27)) (g := g) (o := x * 7) hgB; have hWG := hb.trans ((hal.mono hb.size).trans hput); have HLG := Lib.hid (live_rd ⟨r.name, r.frees, r.gen, r.bound, np', r.nn, nc', cp', r.cn, cc'⟩ (noF F x) (.slice (some ⟨g, 0, none⟩) F.ins.length cI) (.slice pR F.regions.length cR) _ (HU.out.keep ((HB.out.alloc HB.out.size _).trans (hWG.mono (HB.out.alloc HB.out.size _).size))) hii hrg (by rw [noF_len]; exact hnn)); have HWG := Lib.hid hWG; unfold putW at HLG HWG; unfold funcV at HLG; dsimp only [noF] at HLG; unfold putW at hbx; obtain ⟨v0, v1, v2, v3, v4, v5, v6, v7, v8, v9⟩ := hbx; dsimp only at v0 v1 v2 v3 v4 v5 v6 v7 v8 v9; clear hii hrg hput hWG hRO hb hN' hC' hR' hIO hal hgB hgl hgf hgf1 y0 y1 y2 y3 y4 y5 y6 y7 y8 y9 z0 z1 z2 z3 z4 z5 z6 z7 z8 z9)
      | (go_at_call 23; (with_reducible refine HLG.out.mono ?_); intro e wE hpost; unfold LiveR at hpost; rw [if_pos (show soundB ⟨F.params, F.regs, F.ins.set x insZ, F.regions⟩ = true from HNS.out)] at hpost; obtain ⟨vM, M, rfl, hMr, hMok, hMlv, hbE⟩ := hpost; obtain ⟨pM, cM, rfl, hMl, hMc⟩ := hMr; rw [show M.length = F.ins.length from hMok.len.trans (by show (F.ins.set x insZ).length = _; rw [List.length_set])] at hMc ⊢; have HMC := Lib.hid hMc; have HMLV := Lib.hid hMlv; have hWE := HWG.out.trans (hbE.mono HWG.out.size); have hbal := HB.out.alloc HB.out.size (.cells #[.int .i64 ik.op, .int .i64 ik.d, .int .i64 ik.a, .int .i64 ik.b, .int .i64 ik.t, .int .i64 ik.k, .slice p7 ik.l.length c7] 50); have HE := Lib.hid (hbal.trans (hWE.mono hbal.size)); obtain ⟨b0, b1, b2, b3, b4, b5, b6⟩ := (Box7.new wB ik (.slice p7 ik.l.length c7) 50).keep hWE (by simp); have HWR := Lib.hid (rwrites_any ik (.slice p7 ik.l.length c7) wE (HAT.out.2.2.2.2.2.2.2.1.keep HE.out) HAT.out.2.2.2.2.2.2.2.2); unfold insV at HWR; have HBE := Lib.hid (((Below.refl wB.heap.size wB).alloc (Nat.le_refl _) (.cells #[.int .i64 ik.op, .int .i64 ik.d, .int .i64 ik.a, .int .i64 ik.b, .int .i64 ik.t, .int .i64 ik.k, .slice p7 ik.l.length c7] 50)).trans (hWE.mono (by simp))); clear hMl hMc hMok hMlv hbE hWE hbal v0 v1 v2 v3 v4 v5 v6 v7 v8 v9)
      | (go_at_call 29; (with_reducible refine HWR.out.mono ?_); rintro e wF ⟨uW, rfl, hOW, hbF⟩; obtain ⟨pW, cW, rfl⟩ := own_form hOW; have HOW := Lib.hid hOW; have HEF := Lib.hid hbF; have HF := Lib.hid (HE.out.trans (hbF.mono HE.out.size)); have HBF := Lib.hid (HBE.out.trans (hbF.mono HBE.out.size)); have x2 := (HXB.out.keep HBF.out (World.block_lt_of_cell? _ _ HXB.out.c0)).c2; clear hOW hbF b0 b1 b2 b3 b4 b5 b6)
      | fail)
    have hWn := writesD_len ik
    have HRW := Lib.hid ((OW.mine HOW.out).ri (by omega))
    go_loop [11] (fun s => ∃ k : Nat, s = .int .i64 k ∧ k ≤ F.ins.length) (fun s => F.ins.length - (intOf s).toNat)
    case atStart => exact ⟨0, rfl, Nat.zero_le _⟩
    case round =>
      obtain ⟨k, rfl, hk⟩ := hrel
      by_cases hlt : k < F.ins.length
      · have hkz : (k : Int) < (F.ins.length : Int) := by omega
        obtain ⟨bM, oM, uM, rfl, hMk, hMw⟩ := HMC.out k hlt
        obtain ⟨bL, oL, uL, rfl, hLk, hLw⟩ := HLC.out k hlt
        have hml := HMLV.out k (by show k < (F.ins.set x insZ).length; rw [List.length_set]; exact hlt)
        have hll2 := HLV.out k hlt
        generalize M.getD k [] = Mk at hMw hml
        generalize L.getD k [] = Lk at hLw hll2
        have HML := Lib.hid hml
        have HLL2 := Lib.hid hll2
        clear hml hll2
        have hMk := below_cell HEF.out hMk
        have hLk := below_cell HBF.out hLk
        have HMW := Lib.hid (hMw.keep HEF.out)
        have HLW := Lib.hid (hLw.keep HBF.out)
        obtain ⟨p1, c1, rfl, _, _, _⟩ := rw_form hMw
        obtain ⟨p2', c2', rfl, _, _, _⟩ := rw_form hLw
        have HLT := Lib.hid hlt
        clear hMw hLw hlt
        go_wp2_with fail
        go_loop [12] (fun s => ∃ q : Nat, s = .int .i64 q ∧ (q : Int) ≤ F.regs) (fun s => F.regs.toNat - (intOf s).toNat)
        case atStart => exact ⟨0, rfl, by omega⟩
        case round =>
          obtain ⟨q, rfl, hq⟩ := hrel
          by_cases hqr : (q : Int) < F.regs
          · have HM := Lib.hid (is_any _ Mk q wF HMW.out (by omega) (by omega))
            have HL := Lib.hid (is_any _ Lk q wF HLW.out (by omega) (by omega))
            have HHO := Lib.hid (holds_any _ (writesD ik) q wF HRW.out)
            rw [isB_nat] at HM HL
            cases hmv : hasW Mk q with
            | false =>
              rw [hmv] at HM
              clear hmv
              go_wp2_with (first
                | (go_at_call 27; (with_reducible refine HM.out.mono ?_); rintro e w9 ⟨rfl, rfl⟩)
                | fail)
              go_round
              case rel => exact ⟨q + 1, by go_num, by omega⟩
              case measure => simp [intOf]; omega
            | true =>
              have hlm := (HML.out q).1 hmv
              rw [hmv] at HM
              clear hmv
              cases hlv : hasW Lk q with
              | true =>
                rw [hlv] at HL
                clear hlv hlm
                go_wp2_with (first
                  | (go_at_call 27; (with_reducible refine HM.out.mono ?_); rintro e w9 ⟨rfl, rfl⟩)
                  | (go_at_call 27; (with_reducible refine HL.out.mono ?_); rintro e w9 ⟨rfl, rfl⟩)
                  | fail)
                go_round
                case rel => exact ⟨q + 1, by go_num, by omega⟩
                case measure => simp [intOf]; omega
              | false =>
                have hin : decide ((q : Int) ∈ writesD ik) = true := by
                  rw [decide_eq_true_eq]
                  refine Classical.byContradiction fun hno => ?_
                  have := noF_live HSS.out hf1 hnn (by rw [HIK.out]; exact h18) (by rw [HIK.out]; exact h41) (by rw [HIK.out]; exact h42) hlm (by rw [HIK.out]; exact hno)
                  have := (HLL2.out q).2 this
                  rw [hlv] at this
                  cases this
                rw [hlv] at HL
                rw [hin] at HHO
                clear hlv hlm hin
                go_wp2_with (first
                  | (go_at_call 27; (with_reducible refine HM.out.mono ?_); rintro e w9 ⟨rfl, rfl⟩)
                  | (go_at_call 27; (with_reducible refine HL.out.mono ?_); rintro e w9 ⟨rfl, rfl⟩)
                  | (go_at_call 30; (with_reducible refine HHO.out.mono ?_); rintro e w9 ⟨rfl, rfl⟩)
                  | fail)
                go_round
                case rel => exact ⟨q + 1, by go_num, by omega⟩
                case measure => simp [intOf]; omega
          · go_wp2_with fail
            go_round
            case rel => exact ⟨k + 1, by go_num, by have := HLT.out; omega⟩
            case measure => have := HLT.out; simp [intOf]; omega
      · have hkz : ¬ (k : Int) < (F.ins.length : Int) := by omega
        go_wp2_with fail
        go_ret
        exact ⟨rfl, HF.out⟩
end Go.Proofs.YtnniohimbmnapaaDoor
