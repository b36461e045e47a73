/- The document's SameFunc: two functions that read alike are the same. -/
import Derived.Test.YtnniohimbmnapaaDoorCopyB
import Derived.Test.YtnniohimbmnapaaDoorKs
import Derived.Deep.QuietTactic
import Derived.BigQuiet
import Derived.WalkSmall
namespace Go.Proofs.YtnniohimbmnapaaDoor
open Go Go.ChangeShapes Go.WideShapes Go.RowKit
set_option linter.unusedVariables false
set_option linter.unusedSimpArgs false
set_option maxRecDepth 100000 in
set_option maxHeartbeats 2000000 in
theorem sameints_ri (u u' : Value) (l : List Int) (w : World) (h1 : Ri w u l) (h2 : Ri w u' l) :
    Calls Tryd.prog 60 #[u, u'] w fun e w' => e = .returned (.bool true) ∧ Below w.heap.size w w' := by
  obtain ⟨p, c, rfl, hc, hm, hp⟩ := ri_form h1
  obtain ⟨p', c', rfl, hc', _, hp'⟩ := ri_form h2
  have HP := Lib.hid hp
  have HP' := Lib.hid hp'
  clear hp hp' h1 h2
  go_enter Tryd.func60, Tryd.ntmps60
  go_wp2_with fail
  go_loopw [5] (fun s wr => ∃ k q : Nat, s = .int .i64 k ∧ k ≤ l.length ∧ wr = w.drewN q) (fun s _ => l.length - (intOf s).toNat)
  case atStart => exact ⟨0, 0, by go_num, Nat.zero_le _, rfl⟩
  case round =>
    obtain ⟨k, q, rfl, hk, rfl⟩ := hrel
    by_cases hlt : k < l.length
    · obtain ⟨b, off, rfl, e1⟩ := HP.out (by omega)
      obtain ⟨b', off', rfl, e2⟩ := HP'.out (by omega)
      replace e1 := e1 k hlt
      replace e2 := e2 k hlt
      obtain ⟨x, hx⟩ : ∃ x, l.getD k 0 = x := ⟨_, rfl⟩
      rw [hx] at e1 e2
      clear hx
      have hlz : (k : Int) < (l.length : Int) := by omega
      go_wp2_with fail
      go_quiet (fail)
      go_wp2_with fail
      go_roundw
      case rel => exact ⟨k + 1, _, by go_num, by omega, rfl⟩
      case measure => simp [intOf]; omega
    · have hlz : ¬ (k : Int) < (l.length : Int) := by omega
      go_wp2_with fail
      go_ret
      exact ⟨rfl, by exact below_drewN (Below.refl _ _) _⟩
set_option maxRecDepth 100000 in
set_option maxHeartbeats 2000000 in
theorem sameins_any (i : InsD) (u u' : Value) (w : World) (h1 : Ri w u i.l) (h2 : Ri w u' i.l) :
    Calls Tryd.prog 54 #[insV i u, insV i u'] w fun e w' => e = .returned (.bool true) ∧ Below w.heap.size w w' := by
  obtain ⟨p, c, rfl, _, _, _⟩ := ri_form h1
  obtain ⟨p', c', rfl, _, _, _⟩ := ri_form h2
  have H1 := Lib.hid h1
  have H2 := Lib.hid h2
  clear h1 h2
  unfold insV
  go_enter Tryd.func54, Tryd.ntmps54
  go_wp2_with (first
    | (go_at_call 60; (with_reducible refine (sameints_ri _ _ i.l _ (H1.out.keep (by ((repeat' (first | with_reducible assumption | with_reducible exact Below.refl _ _ | with_reducible refine Below.drew ?_ | with_reducible refine Below.alloc ?_ (by first | omega | (simp; omega) | (simp; done) | fail) _ | with_reducible refine Below.setCell ?_ (by first | omega | (simp; omega) | (simp; done) | fail) _ | fail)); (first | done | fail)))) (H2.out.keep (by ((repeat' (first | with_reducible assumption | with_reducible exact Below.refl _ _ | with_reducible refine Below.drew ?_ | with_reducible refine Below.alloc ?_ (by first | omega | (simp; omega) | (simp; done) | fail) _ | with_reducible refine Below.setCell ?_ (by first | omega | (simp; omega) | (simp; done) | fail) _ | fail)); (first | done | fail))))).mono ?_); rintro e w9 ⟨rfl, hb⟩; have HB := Lib.hid hb; clear hb)
    | fail)
  go_ret
  exact ⟨rfl, (by ((repeat' (first | with_reducible assumption | with_reducible exact Below.refl _ _ | with_reducible refine Below.drew ?_ | with_reducible refine Below.alloc ?_ (by first | omega | (simp; omega) | (simp; done) | fail) _ | with_reducible refine Below.setCell ?_ (by first | omega | (simp; omega) | (simp; done) | fail) _ | fail)); (first | done | fail)) : Below w.heap.size w _).trans (HB.out.mono (by simp; omega))⟩
/-- The boxes of the two functions. -/
structure SB (w : World) (r r' : RestV) (F : FuncD) (iv rv iv' rv' : Value) (wx : World) : Prop where
  b1 : Box10 wx w.heap.size r F iv rv
  b2 : Box10 wx (w.heap.size + 1) r' F iv' rv'
  low : Below w.heap.size w wx
theorem SB.keep {w wx w' : World} {r r' : RestV} {F : FuncD} {iv rv iv' rv' : Value} (h : SB w r r' F iv rv iv' rv' wx) (hb : Below wx.heap.size wx w') : SB w r r' F iv rv iv' rv' w' :=
  ⟨h.b1.keep hb (World.block_lt_of_cell? _ _ h.b1.c0), h.b2.keep hb (World.block_lt_of_cell? _ _ h.b2.c0), h.low.trans (hb.mono h.low.size)⟩
theorem SB.new {w : World} {r r' : RestV} {F : FuncD} {iv rv iv' rv' : Value} : SB w r r' F iv rv iv' rv' ((w.alloc (.cells #[.string r.name, .int .i64 F.params, .int .i64 F.regs, .int .i64 r.frees, .bool r.gen, .int .i64 r.bound, .slice r.np r.nn r.nc, .slice r.cp r.cn r.cc, iv, rv] 27)).alloc (.cells #[.string r'.name, .int .i64 F.params, .int .i64 F.regs, .int .i64 r'.frees, .bool r'.gen, .int .i64 r'.bound, .slice r'.np r'.nn r'.nc, .slice r'.cp r'.cn r'.cc, iv', rv'] 27)) := by
  refine ⟨(Box10.new w r F iv rv 27).keep ((Below.refl _ _).alloc (Nat.le_refl _) _) (by simp), ?_, by ((repeat' (first | with_reducible assumption | with_reducible exact Below.refl _ _ | with_reducible refine Below.drew ?_ | with_reducible refine Below.alloc ?_ (by first | omega | (simp; omega) | (simp; done) | fail) _ | with_reducible refine Below.setCell ?_ (by first | omega | (simp; omega) | (simp; done) | fail) _ | fail)); (first | done | fail))⟩
  have := Box10.new (w.alloc (.cells #[.string r.name, .int .i64 F.params, .int .i64 F.regs, .int .i64 r.frees, .bool r.gen, .int .i64 r.bound, .slice r.np r.nn r.nc, .slice r.cp r.cn r.cc, iv, rv] 27)) r' F iv' rv' 27
  simpa using this
set_option maxRecDepth 100000 in
set_option maxHeartbeats 8000000 in
theorem samef_any (name : ByteArray) (frees : Int) (gen : Bool) (bound : Int) (np np' : Option Addr) (nn nc nc' : Nat) (cp cp' : Option Addr) (cn cc cc' : Nat) (F : FuncD) (iv rv iv' rv' : Value) (nx cx : List Value) (w : World)
    (hI : Ii w iv F.ins) (hI' : Ii w iv' F.ins) (hR : Rg w rv F.regions) (hR' : Rg w rv' F.regions)
    (hN : Nm w ⟨name, frees, gen, bound, np, nn, nc, cp, cn, cc⟩ nx) (hN' : Nm w ⟨name, frees, gen, bound, np', nn, nc', cp', cn, cc'⟩ nx) (hC : Cn w ⟨name, frees, gen, bound, np, nn, nc, cp, cn, cc⟩ cx) (hC' : Cn w ⟨name, frees, gen, bound, np', nn, nc', cp', cn, cc'⟩ cx)
    (hnn : F.ins.length ≤ 1048576) (hnr : F.regions.length ≤ 1048576) :
    Calls Tryd.prog 31 #[funcV ⟨name, frees, gen, bound, np, nn, nc, cp, cn, cc⟩ F iv rv, funcV ⟨name, frees, gen, bound, np', nn, nc', cp', cn, cc'⟩ F iv' rv'] w fun e w' => e = .returned (.bool true) ∧ Below w.heap.size w w' := by
  obtain ⟨p, c, rfl, hc, hm, hp⟩ := ii_form hI
  obtain ⟨p', c', rfl, hc', _, hp'⟩ := ii_form hI'
  obtain ⟨q, d, rfl, hd, hdm, hq⟩ := rg_form hR
  obtain ⟨q', d', rfl, hd', _, hq'⟩ := rg_form hR'
  have HP := Lib.hid hp
  have HP' := Lib.hid hp'
  have HQ := Lib.hid hq
  have HQ' := Lib.hid hq'
  have HN := Lib.hid hN
  have HN' := Lib.hid hN'
  have HC := Lib.hid hC
  have HC' := Lib.hid hC'
  have hnn6 := hN.2.2.1
  have hcn6 := hC.2.2.1
  dsimp only at hnn6 hcn6
  clear hI hI' hR hR' hN hN' hC hC' hp hp' hq hq'
  have HS0 := Lib.hid (SB.new (w := w) (r := ⟨name, frees, gen, bound, np, nn, nc, cp, cn, cc⟩) (r' := ⟨name, frees, gen, bound, np', nn, nc', cp', cn, cc'⟩) (F := F) (iv := .slice p F.ins.length c) (rv := .slice q F.regions.length d) (iv' := .slice p' F.ins.length c') (rv' := .slice q' F.regions.length d'))
  unfold funcV
  go_enter Tryd.func31, Tryd.ntmps31
  go_wp2_with fail
  -- the names
  go_loopw [5] (fun s5 wx => ∃ k : Nat, s5 = .int .i64 k ∧ k ≤ nn ∧ SB w ⟨name, frees, gen, bound, np, nn, nc, cp, cn, cc⟩ ⟨name, frees, gen, bound, np', nn, nc', cp', cn, cc'⟩ F (.slice p F.ins.length c) (.slice q F.regions.length d) (.slice p' F.ins.length c') (.slice q' F.regions.length d') wx) (fun s5 _ => nn - (intOf s5).toNat)
  case atStart => exact ⟨0, rfl, Nat.zero_le _, HS0.out⟩
  case round =>
    obtain ⟨k, rfl, hk, hsb⟩ := hrel
    have x6 := hsb.b1.c6
    have y6 := hsb.b2.c6
    have HSB := Lib.hid hsb
    dsimp only at x6 y6
    clear hsb HS0
    by_cases hlt : k < nn
    · have hkz : (k : Int) < (nn : Int) := by omega
      obtain ⟨s, hs⟩ := HN.out.2.1 k hlt
      obtain ⟨_, _, he, _, _, hb1⟩ := cr_form (HN.out.1.keep HSB.out.low)
      obtain ⟨_, _, he', _, _, hb2⟩ := cr_form (HN'.out.1.keep HSB.out.low)
      dsimp only at he he' hb1 hb2
      simp only [Value.slice.injEq] at he he'
      obtain ⟨rfl, _, rfl⟩ := he
      obtain ⟨rfl, _, rfl⟩ := he'
      obtain ⟨b, o, rfl, e1⟩ := hb1 (by omega)
      obtain ⟨b', o', rfl, e2⟩ := hb2 (by omega)
      replace e1 := e1 k _ hs
      replace e2 := e2 k _ hs
      clear hs
      go_wp2_with fail
      go_quiet (fail)
      go_wp2_with fail
      go_roundw
      case rel => exact ⟨k + 1, by go_num, by omega, HSB.out.keep (by exact below_drewN (Below.refl _ _) _)⟩
      case measure => simp [intOf]; omega
    · have hkz : ¬ (k : Int) < (nn : Int) := by omega
      go_wp2_with fail
      -- the constants
      go_loopw [6] (fun s6 wx => ∃ k : Nat, s6 = .int .i64 k ∧ k ≤ cn ∧ SB w ⟨name, frees, gen, bound, np, nn, nc, cp, cn, cc⟩ ⟨name, frees, gen, bound, np', nn, nc', cp', cn, cc'⟩ F (.slice p F.ins.length c) (.slice q F.regions.length d) (.slice p' F.ins.length c') (.slice q' F.regions.length d') wx) (fun s6 _ => cn - (intOf s6).toNat)
      case atStart => exact ⟨0, rfl, Nat.zero_le _, HSB.out⟩
      case round =>
        obtain ⟨k, rfl, hk, hsb⟩ := hrel
        have x7 := hsb.b1.c7
        have y7 := hsb.b2.c7
        have HSB := Lib.hid hsb
        dsimp only at x7 y7
        clear hsb x6 y6
        by_cases hlt : k < cn
        · have hkz : (k : Int) < (cn : Int) := by omega
          obtain ⟨⟨a, ha⟩, s, hs⟩ := HC.out.2.1 k hlt
          obtain ⟨_, _, he, _, _, hb1⟩ := cr_form (HC.out.1.keep HSB.out.low)
          obtain ⟨_, _, he', _, _, hb2⟩ := cr_form (HC'.out.1.keep HSB.out.low)
          dsimp only at he he' hb1 hb2
          simp only [Value.slice.injEq] at he he'
          obtain ⟨rfl, _, rfl⟩ := he
          obtain ⟨rfl, _, rfl⟩ := he'
          obtain ⟨b, o, rfl, e1⟩ := hb1 (by omega)
          obtain ⟨b', o', rfl, e2⟩ := hb2 (by omega)
          have e3 := e1 _ _ hs
          have e4 := e2 _ _ hs
          replace e1 := e1 _ _ ha
          replace e2 := e2 _ _ ha
          rw [← Nat.add_assoc] at e3 e4
          clear hs ha
          go_wp2_with fail
          go_quiet (fail)
          go_wp2_with fail
          go_roundw
          case rel => exact ⟨k + 1, by go_num, by omega, HSB.out.keep (by exact below_drewN (Below.refl _ _) _)⟩
          case measure => simp [intOf]; omega
        · have hkz : ¬ (k : Int) < (cn : Int) := by omega
          go_wp2_with fail
          -- the regions
          go_loopw [7] (fun s7 wx => ∃ k : Nat, s7 = .int .i64 k ∧ k ≤ F.regions.length ∧ SB w ⟨name, frees, gen, bound, np, nn, nc, cp, cn, cc⟩ ⟨name, frees, gen, bound, np', nn, nc', cp', cn, cc'⟩ F (.slice p F.ins.length c) (.slice q F.regions.length d) (.slice p' F.ins.length c') (.slice q' F.regions.length d') wx) (fun s7 _ => F.regions.length - (intOf s7).toNat)
          case atStart => exact ⟨0, rfl, Nat.zero_le _, HSB.out⟩
          case round =>
            obtain ⟨k, rfl, hk, hsb⟩ := hrel
            have x9 := hsb.b1.c9
            have y9 := hsb.b2.c9
            have HSB := Lib.hid hsb
            clear hsb x7 y7
            by_cases hlt : k < F.regions.length
            · have hkz : (k : Int) < (F.regions.length : Int) := by omega
              obtain ⟨b, o, rfl, e1⟩ := HQ.out (by omega)
              obtain ⟨b', o', rfl, e2⟩ := HQ'.out (by omega)
              obtain ⟨e10, e11, e12, e13⟩ := (e1 k hlt).keep HSB.out.low
              obtain ⟨e20, e21, e22, e23⟩ := (e2 k hlt).keep HSB.out.low
              generalize F.regions.getD k regZ = rg at e10 e11 e12 e13 e20 e21 e22 e23
              clear e1 e2
              go_wp2_with fail
              go_quiet (fail)
              go_wp2_with fail
              go_roundw
              case rel => exact ⟨k + 1, by go_num, by omega, HSB.out.keep (by exact below_drewN (Below.refl _ _) _)⟩
              case measure => simp [intOf]; omega
            · have hkz : ¬ (k : Int) < (F.regions.length : Int) := by omega
              go_wp2_with fail
              -- the instructions
              go_loopw [8] (fun s8 wx => ∃ k : Nat, s8 = .int .i64 k ∧ k ≤ F.ins.length ∧ SB w ⟨name, frees, gen, bound, np, nn, nc, cp, cn, cc⟩ ⟨name, frees, gen, bound, np', nn, nc', cp', cn, cc'⟩ F (.slice p F.ins.length c) (.slice q F.regions.length d) (.slice p' F.ins.length c') (.slice q' F.regions.length d') wx) (fun s8 _ => F.ins.length - (intOf s8).toNat)
              case atStart => exact ⟨0, rfl, Nat.zero_le _, HSB.out⟩
              case round =>
                obtain ⟨k, rfl, hk, hsb⟩ := hrel
                have x8 := hsb.b1.c8
                have y8 := hsb.b2.c8
                have HSB := Lib.hid hsb
                clear hsb x9 y9
                by_cases hlt : k < F.ins.length
                · have hkz : (k : Int) < (F.ins.length : Int) := by omega
                  obtain ⟨b, o, rfl, e1⟩ := HP.out (by omega)
                  obtain ⟨b', o', rfl, e2⟩ := HP'.out (by omega)
                  obtain ⟨l1, h1⟩ := e1 k hlt
                  obtain ⟨l2, h2⟩ := e2 k hlt
                  obtain ⟨e10, e11, e12, e13, e14, e15, e16, e17, _⟩ := h1.keep HSB.out.low
                  obtain ⟨e20, e21, e22, e23, e24, e25, e26, e27, _⟩ := h2.keep HSB.out.low
                  generalize F.ins.getD k insZ = i at e10 e11 e12 e13 e14 e15 e16 e17 e20 e21 e22 e23 e24 e25 e26 e27
                  obtain ⟨pl, cl, rfl, _, _, _⟩ := ri_form e17
                  obtain ⟨pl', cl', rfl, _, _, _⟩ := ri_form e27
                  have HSI := Lib.hid (sameins_any i _ _ wr.drew (e17.keep (Below.refl _ _).drew) (e27.keep (Below.refl _ _).drew))
                  unfold insV at HSI
                  clear e1 e2 h1 h2 e17 e27
                  go_wp2_with fail
                  refine wp_region_still_tail' 10 (by kernel_rfl) (by kernel_rfl) ?_
                  simp only [List.take_succ_cons, List.take_zero, List.drop_succ_cons, List.drop_zero]
                  repeat still_step
                  refine wpStill_nil ?_
                  go_wp2_with (first
                    | (go_at_call 54; (with_reducible refine HSI.out.mono ?_); rintro e w9 ⟨rfl, hb⟩; have HB := Lib.hid hb; clear hb)
                    | fail)
                  go_roundw
                  case rel => exact ⟨k + 1, by go_num, by omega, HSB.out.keep ((Below.refl _ _).drew.trans HB.out)⟩
                  case measure => simp [intOf]; omega
                · have hkz : ¬ (k : Int) < (F.ins.length : Int) := by omega
                  go_wp2_with fail
                  go_ret
                  exact ⟨rfl, HSB.out.low⟩
end Go.Proofs.YtnniohimbmnapaaDoor
