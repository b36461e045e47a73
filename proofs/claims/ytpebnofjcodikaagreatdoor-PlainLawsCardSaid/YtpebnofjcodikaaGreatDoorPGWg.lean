/- Layer 2, the document's answer: screeref02.Good. Layer 2: the helpers of the laws: form, fits, is. Layer 2: the helper 'is' of the laws. Layer 2: answers over a world that stays fixed; what a result that may be too great says. Layer 2: numbers of the reference in boxes: what a store into a box leaves, and ref.Of over a fixed world. Layer 2: more on numbers of the reference in boxes: sums, turned numbers, what 'is' answers. append onto a row of one's own, the source nil, empty or neither: 'Src'. Nothing of the program is imported. -/
import Derived.Test.YtpebnofjcodikaaGreatDoorPGWa
import Derived.Test.YtpebnofjcodikaaGreatDoorPDig
import Derived.Test.YtpebnofjcodikaaGreatDoorPGWd
import Derived.Test.YtpebnofjcodikaaGreatDoorPGWf
import Derived.Test.YtpebnofjcodikaaGreatDoorPGWc
import Derived.Test.YtpebnofjcodikaaGreatDoorPRd
import Derived.Maps.AppendAt
import Derived.Laws.AppendOwnNone
import Derived.RegionTactic
import Derived.Laws.Rows
namespace Go.Proofs.YtpebnofjcodikaaGreatDoor
section
section
open Go.ChangeShapes Go.WideShapes Go.ChangeAt Go.RowKit
set_option linter.unusedVariables false
set_option linter.unusedSimpArgs false
set_option maxRecDepth 100000 in
set_option maxHeartbeats 1000000 in
theorem refgood_any (neg : Bool) (u : Value) (ws : List Int) (w : World) (hr : Rd w u ws) (hf : Fit ws) :
    Calls Tryz.prog 28 #[.agg #[.bool neg, u]] w (BoolPost w (goodB neg ws)) := by
  obtain ⟨p, c, rfl, hc, hm, hp⟩ := rd_form hr
  have HB := Lib.hid (show Below w.heap.size w (w.alloc (.cells #[.bool neg, .slice p ws.length c] 24)) from (Below.refl _ _).alloc (Nat.le_refl _) _)
  by_cases h0 : ws.length = 0
  · have e0 : ws = [] := List.length_eq_zero_iff.1 h0
    have HG := Lib.hid (show (!neg) = goodB neg ws by rw [e0]; rfl)
    clear e0
    rw [h0] at HB ⊢
    clear hp hc hm hr h0
    go_enter Tryz.func28, Tryz.ntmps28
    go_wp2
    go_ret
    exact BoolPost.mk HG.out HB.out
  · obtain ⟨b, off, rfl, hcell⟩ := hp (by omega)
    have hl0 : (ws.length : Int) ≠ 0 := by omega
    have hl1 : ((ws.length : Int) == 0) = false := by simpa using hl0
    have hl : 1 ≤ ws.length := by omega
    clear h0 hp hl0
    by_cases h30 : ws.length ≤ 30
    · have h30z : ¬ (30 : Int) < (ws.length : Int) := by omega
      have hcl := fun i hi => alloc_cell (hcell i hi) (.cells #[.bool neg, .slice (some ⟨b, off, none⟩) ws.length c] 24)
      have HC := Lib.hid hcl
      clear hcell hcl
      go_enter Tryz.func28, Tryz.ntmps28
      go_wp2
      go_loop [4] (fun i => ∃ k : Nat, i = .int .i64 k ∧ k ≤ ws.length ∧ ∀ j, j < k → ws.getD j 0 < 1000000000000000000) (fun i => ws.length - (intOf i).toNat)
      case atStart => exact ⟨0, by go_num, by omega, fun j hj => by omega⟩
      case round =>
        obtain ⟨k, rfl, hk, hall⟩ := hrel
        have HA := Lib.hid hall
        clear hall
        by_cases hlt : k < ws.length
        · have hcx := HC.out k hlt
          by_cases hbig : ws.getD k 0 < 1000000000000000000
          · have HL := Lib.hid hbig
            generalize ws.getD k 0 = x at hcx hbig
            go_wp2
            go_round
            case rel => exact ⟨k + 1, by go_num, by omega, fun j hj => by
              by_cases e : j = k
              · subst e; exact HL.out
              · exact HA.out j (by omega)⟩
            case measure => simp [intOf]; omega
          · have HG := Lib.hid (goodB_not (neg := neg) hlt hbig)
            generalize ws.getD k 0 = x at hcx hbig
            go_wp2
            go_ret
            exact BoolPost.mk HG.out.symm HB.out
        · have hlast := HC.out (ws.length - 1) (by omega)
          by_cases hz : ws.getD (ws.length - 1) 0 = 0
          · have HG := Lib.hid (goodB_last (neg := neg) (by omega) hz)
            rw [hz] at hlast
            clear hz
            go_wp2
            go_ret
            exact BoolPost.mk HG.out.symm HB.out
          · have HG := Lib.hid (goodB_yes (neg := neg) (by omega) h30 hz (fun i hi => HA.out i (by omega)))
            have hz2 : (ws.getD (ws.length - 1) 0 != 0) = true := by simpa using hz
            clear hz
            generalize ws.getD (ws.length - 1) 0 = q at hlast hz2
            go_wp2
            go_ret
            exact BoolPost.mk HG.out.symm HB.out
    · have HG := Lib.hid (goodB_long (neg := neg) (show 30 < ws.length by omega))
      go_enter Tryz.func28, Tryz.ntmps28
      go_wp2
      go_ret
      exact BoolPost.mk HG.out.symm HB.out
end
section
open Go.ChangeShapes Go.WideShapes Go.ChangeAt Go.RowKit
set_option linter.unusedVariables false
set_option linter.unusedSimpArgs false
end
section
open Go.ChangeShapes Go.WideShapes Go.ChangeAt Go.RowKit
set_option linter.unusedVariables false
set_option linter.unusedSimpArgs false
end
end
section
section
open Go.ChangeShapes Go.WideShapes Go.ChangeAt Go.RowKit
set_option linter.unusedVariables false
set_option linter.unusedSimpArgs false
/-- What a result that may be too great says: the number, or that there is none. -/
def ResCase (z : Int) (neg : Bool) (ws : List Int) (er : Int) : Prop := (Small z ∧ er = 0 ∧ Sgn B18 neg ws z) ∨ (¬ Small z ∧ er = 7 ∧ neg = false ∧ ws = [])
/-- A call's answer, over a world that stays fixed. -/
def At (W : World) (v : Value) (e : Ending) (w' : World) : Prop := e = .returned v ∧ Below W.heap.size W w'
theorem ResCase.uniq {z : Int} {n1 n2 : Bool} {xs ys : List Int} {e1 e2 : Int} (h : ResCase z n1 xs e1) (g : ResCase z n2 ys e2) : n1 = n2 ∧ xs = ys ∧ e1 = e2 := by
  rcases h with ⟨a, rfl, c⟩ | ⟨a, rfl, rfl, rfl⟩ <;> rcases g with ⟨a', rfl, c'⟩ | ⟨a', rfl, rfl, rfl⟩
  · exact ⟨(c.uniq (by decide) c').1, (c.uniq (by decide) c').2, rfl⟩
  · exact absurd a a'
  · exact absurd a' a
  · exact ⟨rfl, rfl, rfl⟩
theorem ResCase.er {z : Int} {neg : Bool} {ws : List Int} {er : Int} (h : ResCase z neg ws er) : er = 0 ∨ er = 7 := by
  rcases h with ⟨_, h, _⟩ | ⟨_, h, _⟩
  · exact .inl h
  · exact .inr h
theorem ResCase.ok {z : Int} {neg : Bool} {ws : List Int} (h : ResCase z neg ws 0) : Sgn B18 neg ws z := by
  rcases h with ⟨_, _, h⟩ | ⟨_, h, _⟩
  · exact h
  · cases h
theorem ResCase.er0 {z : Int} {neg : Bool} {ws : List Int} {er : Int} (h : ResCase z neg ws er) (hs : Small z) : er = 0 := by
  rcases h with ⟨_, h, _⟩ | ⟨h, _⟩
  · exact h
  · exact absurd hs h
theorem ResCase.er7 {z : Int} {neg : Bool} {ws : List Int} {er : Int} (h : ResCase z neg ws er) (hs : ¬ Small z) : er = 7 := by
  rcases h with ⟨h, _⟩ | ⟨_, h, _⟩
  · exact absurd h hs
  · exact h
end
section
section
open Go.ChangeShapes Go.WideShapes Go.ChangeAt Go.RowKit
set_option linter.unusedVariables false
set_option linter.unusedSimpArgs false
/-- A box holds a bool and a slice, a row of bytes holds bytes: a store into the box leaves the row. -/
theorem Rb.set2 {w : World} {B : Nat} {a : Bool} {p : Option Addr} {n c : Nat} {v : Value} {ws : List Int} (h : Rb w v ws) (hb : Box2 w B (.bool a) (.slice p n c)) (x y : Value) : Rb ((w.setCell ⟨B, 0, none⟩ x).setCell ⟨B, 1, none⟩ y) v ws := by
  rcases h with h | ⟨b, off, cc, rfl, h1, h2, h3⟩
  · exact .inl h
  · refine .inr ⟨b, off, cc, rfl, h1, h2, fun i hi => ?_⟩
    have h4 := h3 i hi
    have e0 : (⟨B, 0, none⟩ : Addr) ≠ ⟨b, off + i, none⟩ := fun e => by rw [← e, hb.c0] at h4; simp at h4
    have e1 : (⟨B, 1, none⟩ : Addr) ≠ ⟨b, off + i, none⟩ := fun e => by rw [← e, hb.c1] at h4; simp at h4
    exact (World.cell?_setCell_other _ _ _ _ e1).trans ((World.cell?_setCell_other _ _ _ _ e0).trans h4)
def NumAt (W wx : World) (z : Int) (e : Ending) (w' : World) : Prop :=
  ∃ m p c ds, e = .returned (.agg #[.bool m, .slice p ds.length c]) ∧ Rb w' (.slice p ds.length c) ds ∧ Sgn 10 m ds z ∧ Below W.heap.size W w' ∧ Below wx.heap.size wx w'
end
section
open Go.ChangeShapes Go.WideShapes Go.ChangeAt Go.RowKit
set_option linter.unusedVariables false
set_option linter.unusedSimpArgs false
theorem Rb.alloc {w : World} {v : Value} {ws : List Int} (h : Rb w v ws) (o : Obj) : Rb (w.alloc o) v ws := h.keep ((Below.refl _ _).alloc (Nat.le_refl _) o)
theorem Rb.drew {w : World} {v : Value} {ws : List Int} (h : Rb w v ws) : Rb w.drew v ws := h
theorem Rb.put2 {w : World} {B : Nat} {v : Value} {ws : List Int} (hb : Box2 w B (.bool false) (.slice none 0 0)) (x y : Value) (h : Rb w v ws) : Rb ((w.setCell ⟨B, 0, none⟩ x).setCell ⟨B, 1, none⟩ y) v ws := h.set2 hb x y
theorem Small.len {m : Bool} {ds : List Int} {z : Int} (h : Small z) (s : Sgn 10 m ds z) : ds.length ≤ 540 := s.fits.2 h
theorem cmp_at {W wx : World} {n1 : Bool} {u1 : Value} {xs : List Int} {z1 : Int} {n2 : Bool} {u2 : Value} {ys : List Int} {z2 : Int} (hr1 : Rd W u1 xs) (hr2 : Rd W u2 ys) (hs1 : Sgn B18 n1 xs z1) (hs2 : Sgn B18 n2 ys z2) (hl1 : xs.length ≤ 30) (hl2 : ys.length ≤ 30) (hx : Below W.heap.size W wx) :
    Calls Tryz.prog 27 #[.agg #[.bool n1, u1], .agg #[.bool n2, u2]] wx (At W (.int .i64 (cmpI z1 z2))) := by
  refine (cmp_good n1 u1 xs z1 n2 u2 ys z2 wx (hr1.keep hx) (hr2.keep hx) hs1 hs2 hl1 hl2).mono ?_
  rintro e w' ⟨rfl, hb⟩
  exact ⟨rfl, hx.trans (hb.mono hx.size)⟩
/-- A big number of one's own, over a world that stays fixed. -/
def BigAt (W wx : World) (z : Int) (e : Ending) (w' : World) : Prop :=
  ∃ n p c ws, e = .returned (.agg #[.bool n, .slice p (List.length ws) c]) ∧ Rd w' (.slice p ws.length c) ws ∧ Sgn B18 n ws z ∧ Below W.heap.size W w' ∧ Below wx.heap.size wx w'
theorem neg_at {W wx : World} {n1 : Bool} {u1 : Value} {xs : List Int} {z1 : Int} (hr1 : Rd W u1 xs) (hs1 : Sgn B18 n1 xs z1) (hl1 : xs.length ≤ 30) (hx : Below W.heap.size W wx) :
    Calls Tryz.prog 65 #[.agg #[.bool n1, u1]] wx (BigAt W wx (-z1)) := by
  refine (neg_good n1 u1 xs z1 wx (hr1.keep hx) hs1 hl1).mono ?_
  rintro e w' ⟨n, u, ws, rfl, hM, hS, hB⟩
  obtain ⟨p, c, rfl⟩ := MU.form hM
  have hlen : ws.length ≤ 30 := hS.small.2 (hs1.small.1 hl1).neg
  exact ⟨n, p, c, ws, rfl, hM.rd (by omega), hS, hx.trans (hB.mono hx.size), hB⟩
end
end
end
section
open Go.RowKit
set_option linter.unusedVariables false
set_option linter.unusedSimpArgs false
/-- The slice value x holds m elements of one cell: news. -/
def Src (w : World) (x : Value) (m : Nat) (news : List Value) : Prop :=
  news.length = m ∧ ((x = .slice none 0 0 ∧ m = 0) ∨ ∃ ad c, x = .slice (some ad) m c ∧ ∀ j u, news[j]? = some u → w.cell? (ad.add j) = some u)
/-- What an append leaves. -/
structure Apd (W w' : World) (base : Nat) (e : TypeId) (v v' : Value) (n : Nat) (xs : List Value) : Prop where
  own : w'.ownsRow base e 1 v' n xs
  grown : W.grownBy w' v.ownBlock
  at_ : v'.ownBlock = v.ownBlock ∨ v'.ownBlock = some W.heap.size
section
variable {P : Program} {w : World} {base : Nat} {t ty e : TypeId} {z : Value} {bytes : Nat} {v x : Value} {n m : Nat} {xs news : List Value}
end
theorem Src.keep {w w' : World} {x : Value} {m : Nat} {news : List Value} (h : Src w x m news) (hb : Below w.heap.size w w') : Src w' x m news := by
  obtain ⟨hl, h | ⟨ad, c, rfl, hc⟩⟩ := h
  · exact ⟨hl, .inl h⟩
  · exact ⟨hl, .inr ⟨ad, c, rfl, fun j u hu => below_cell hb (hc j u hu)⟩⟩
theorem Apd.below {W w' : World} {base B : Nat} {e : TypeId} {v v' : Value} {n : Nat} {xs : List Value} (h : Apd W w' base e v v' n xs) (hB : B ≤ W.heap.size) (hv : ∀ g, v.ownBlock = some g → B ≤ g) : Below B W w' :=
  (Below.refl B W).grown h.grown hB (fun q hq => hv q (by first | exact hq | exact hq.symm))
end
end Go.Proofs.YtpebnofjcodikaaGreatDoor
