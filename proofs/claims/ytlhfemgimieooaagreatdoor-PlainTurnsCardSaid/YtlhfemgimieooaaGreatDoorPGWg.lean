/- Layer 2, the document's answer: screeref02.Good. -/
import Derived.Test.YtlhfemgimieooaaGreatDoorPGWa
import Derived.Test.YtlhfemgimieooaaGreatDoorPDig
import Derived.Test.YtlhfemgimieooaaGreatDoorPGWd
import Derived.Test.YtlhfemgimieooaaGreatDoorPGWf
import Derived.Test.YtlhfemgimieooaaGreatDoorPGWc
import Derived.Test.YtlhfemgimieooaaGreatDoorPRd
import Derived.Maps.AppendAt
import Derived.Laws.AppendOwnNone
import Derived.RegionTactic
import Derived.Laws.Rows
set_option linter.unusedVariables false
set_option linter.unusedSimpArgs false
set_option maxRecDepth 100000
set_option maxHeartbeats 1000000
namespace Go.Proofs.YtlhfemgimieooaaGreatDoor
open Go.Lib (hid)
section
section
open Go.ChangeShapes Go.WideShapes Go.ChangeAt Go.RowKit
theorem refgood_any (neg : Bool) (u : Value) (ws : List Int) (w : World) (hr : Rd w u ws) (hf : Fit ws) :
   Calls Tryz.prog 37 #[.agg #[.bool neg, u]] w (BoolPost w (goodB neg ws)) := by
 obtain ⟨p, c, rfl, hc, hm, hp⟩ := rd_form hr
 have HB := hid (show Below w.heap.size w (w.alloc (.cells #[.bool neg, .slice p ws.length c] 24)) from (Below.refl _ _).alloc (Nat.le_refl _) _)
 by_cases h0 : ws.length = 0
 · have e0 : ws = [] := List.length_eq_zero_iff.1 h0
   have HG := hid (show (!neg) = goodB neg ws by rw [e0]; rfl)
   clear e0
   rw [h0] at HB ⊢
   clear hp hc hm hr h0
   go_enter Tryz.func37, Tryz.ntmps37
   go_wp2
   go_ret
   exact BoolPost.mk HG.out HB.out
 · obtain ⟨b, off, rfl, hcell⟩ := hp (by omega)
   have hl0 : (ws.length : Int) ≠ 0 := by omega
   have hl1 : ((ws.length : Int) == 0) = false := by simpa using hl0
   have hl : 1 ≤ ws.length := by omega
   clear h0 hp hl0
   by_cases h30 : ws.length ≤ 30
   · have h30z : ¬ (30 : Int) < (ws.length : Int) := by omega
     have hcl := fun i hi => acl (hcell i hi) (.cells #[.bool neg, .slice (some ⟨b, off, none⟩) ws.length c] 24)
     have HC := hid hcl
     clear hcell hcl
     go_enter Tryz.func37, Tryz.ntmps37
     go_wp2
     go_loop [4] (fun i => ∃ k : Nat, i = .int .i64 k ∧ k ≤ ws.length ∧ ∀ j, j < k → ws.getD j 0 < 1000000000000000000) (fun i => ws.length - (intOf i).toNat)
     case atStart => exact ⟨0, by go_num, by omega, fun j hj => by omega⟩
     case round =>
       obtain ⟨k, rfl, hk, hall⟩ := hrel
       have HA := hid hall
       clear hall
       by_cases hlt : k < ws.length
       · have hcx := HC.out k hlt
         by_cases hbig : ws.getD k 0 < 1000000000000000000
         · have HL := hid hbig
           generalize ws.getD k 0 = x at hcx hbig
           go_wp2
           go_round
           case rel => exact ⟨k + 1, by go_num, by omega, fun j hj => by
             by_cases e : j = k
             · subst e; exact HL.out
             · exact HA.out j (by omega)⟩
           case measure => simp [intOf]; omega
         · have HG := hid (goodB_not (neg := neg) hlt hbig)
           generalize ws.getD k 0 = x at hcx hbig
           go_wp2
           go_ret
           exact BoolPost.mk HG.out.symm HB.out
       · have hlast := HC.out (ws.length - 1) (by omega)
         by_cases hz : ws.getD (ws.length - 1) 0 = 0
         · have HG := hid (goodB_last (neg := neg) (by omega) hz)
           rw [hz] at hlast
           clear hz
           go_wp2
           go_ret
           exact BoolPost.mk HG.out.symm HB.out
         · have HG := hid (goodB_yes (neg := neg) (by omega) h30 hz (fun i hi => HA.out i (by omega)))
           have hz2 : (ws.getD (ws.length - 1) 0 != 0) = true := by simpa using hz
           clear hz
           generalize ws.getD (ws.length - 1) 0 = q at hlast hz2
           go_wp2
           go_ret
           exact BoolPost.mk HG.out.symm HB.out
   · have HG := hid (goodB_long (neg := neg) (show 30 < ws.length by omega))
     go_enter Tryz.func37, Tryz.ntmps37
     go_wp2
     go_ret
     exact BoolPost.mk HG.out.symm HB.out
end
section
open Go.ChangeShapes Go.WideShapes Go.ChangeAt Go.RowKit
end
section
open Go.ChangeShapes Go.WideShapes Go.ChangeAt Go.RowKit
end
end
section
section
open Go.ChangeShapes Go.WideShapes Go.ChangeAt Go.RowKit
def ResCase (z : Int) (neg : Bool) (ws : List Int) (er : Int) : Prop := (Small z ∧ er = 0 ∧ Sgn B18 neg ws z) ∨ (¬ Small z ∧ er = 7 ∧ neg = false ∧ ws = [])
def At (W : World) (v : Value) (e : Ending) (w' : World) : Prop := e = .returned v ∧ Below W.heap.size W w'
theorem drew_cellA {W : World} {a : Addr} {v : Value} (h : W.cell? a = some v) : W.drew.cell? a = some v := h
theorem ResCase.len17 {z : Int} {neg : Bool} {ws : List Int} {er : Int} (h : ResCase z neg ws er) : ws.length ≤ 17592186043904 := by
 rcases h with ⟨h1, _, h3⟩ | ⟨_, _, _, rfl⟩
 · have := h3.small.2 h1; omega
 · simp
theorem ResCase.sgn {z : Int} {neg : Bool} {ws : List Int} {er : Int} (h : ResCase z neg ws er) : Sgn B18 neg ws (sg neg (val B18 ws)) ∧ ws.length ≤ 30 := by
 rcases h with ⟨h1, _, h3⟩ | ⟨_, _, rfl, rfl⟩
 · exact ⟨by have := h3.eq; rwa [this] at h3, h3.small.2 h1⟩
 · exact ⟨Sgn.zero (by decide), by simp⟩
theorem ResCase.er {z : Int} {neg : Bool} {ws : List Int} {er : Int} (h : ResCase z neg ws er) : er = 0 ∨ er = 7 := by
 rcases h with ⟨_, h, _⟩ | ⟨_, h, _⟩
 · exact .inl h
 · exact .inr h
theorem ResCase.ok {z : Int} {neg : Bool} {ws : List Int} (h : ResCase z neg ws 0) : Sgn B18 neg ws z := by
 rcases h with ⟨_, _, h⟩ | ⟨_, h, _⟩
 · exact h
 · cases h
theorem ResCase.er0 {z : Int} {neg : Bool} {ws : List Int} {er : Int} (h : ResCase z neg ws er) (hs : Small z) : er = 0 := by
 rcases h with ⟨_, h, _⟩ | ⟨h, _⟩
 · exact h
 · exact absurd hs h
end
section
section
open Go.ChangeShapes Go.WideShapes Go.ChangeAt Go.RowKit
theorem Rb.set2 {w : World} {B : Nat} {a : Bool} {p : Option Addr} {n c : Nat} {v : Value} {ws : List Int} (h : Rb w v ws) (hb : Box2 w B (.bool a) (.slice p n c)) (x y : Value) : Rb ((w.setCell ⟨B, 0, none⟩ x).setCell ⟨B, 1, none⟩ y) v ws := by
 rcases h with h | ⟨b, off, cc, rfl, h1, h2, h3⟩
 · exact .inl h
 · refine .inr ⟨b, off, cc, rfl, h1, h2, fun i hi => ?_⟩
   have h4 := h3 i hi
   have e0 : (⟨B, 0, none⟩ : Addr) ≠ ⟨b, off + i, none⟩ := fun e => by rw [← e, hb.c0] at h4; simp at h4
   have e1 : (⟨B, 1, none⟩ : Addr) ≠ ⟨b, off + i, none⟩ := fun e => by rw [← e, hb.c1] at h4; simp at h4
   exact (World.cell?_setCell_other _ _ _ _ e1).trans ((World.cell?_setCell_other _ _ _ _ e0).trans h4)
def NumAt (W wx : World) (z : Int) (e : Ending) (w' : World) : Prop :=
 ∃ m p c ds, e = .returned (.agg #[.bool m, .slice p ds.length c]) ∧ Rb w' (.slice p ds.length c) ds ∧ Sgn 10 m ds z ∧ Below W.heap.size W w' ∧ Below wx.heap.size wx w'
theorem of_at {W : World} {n1 : Bool} {u1 : Value} {xs : List Int} {z : Int} (hr : Rd W u1 xs) (hs : Sgn B18 n1 xs z) (hl : xs.length ≤ 100) (wx : World) (hx : Below W.heap.size W wx) :
   Calls Tryz.prog 80 #[.agg #[.bool n1, u1]] wx (NumAt W wx z) := by
 refine (of_any n1 u1 xs z wx (hr.keep hx) hs hl).mono ?_
 rintro e w' ⟨m, u, ds, rfl, hb, hS, hB⟩
 obtain ⟨p, c, rfl, _, _, _⟩ := rb_form hb
 exact ⟨m, p, c, ds, rfl, hb, hS, hx.trans (hB.mono hx.size), hB⟩
end
section
open Go.ChangeShapes Go.WideShapes Go.ChangeAt Go.RowKit
theorem plus_at {W wx : World} {n1 : Bool} {u1 : Value} {xs : List Int} {z1 : Int} {n2 : Bool} {u2 : Value} {ys : List Int} {z2 : Int} (hr1 : Rb wx u1 xs) (hr2 : Rb wx u2 ys) (hs1 : Sgn 10 n1 xs z1) (hs2 : Sgn 10 n2 ys z2) (hl1 : xs.length ≤ 100000) (hl2 : ys.length ≤ 100000) (hx : Below W.heap.size W wx) :
   Calls Tryz.prog 122 #[.agg #[.bool n1, u1], .agg #[.bool n2, u2]] wx (NumAt W wx (z1 + z2)) := by
 refine (refplus_any n1 u1 xs z1 n2 u2 ys z2 wx hr1 hr2 hs1 hs2 hl1 hl2).mono ?_
 rintro e w' ⟨m, u, ds, rfl, hb, hS, hB⟩
 obtain ⟨p, c, rfl, _, _, _⟩ := rb_form hb
 exact ⟨m, p, c, ds, rfl, hb, hS, hx.trans (hB.mono hx.size), hB⟩
theorem turn_at {W wx : World} {n1 : Bool} {u1 : Value} {xs : List Int} {z1 : Int} (hr1 : Rb wx u1 xs) (hs1 : Sgn 10 n1 xs z1) (hx : Below W.heap.size W wx) :
   Calls Tryz.prog 41 #[.agg #[.bool n1, u1]] wx (NumAt W wx (-z1)) := by
 refine (turn_any n1 u1 xs z1 wx hr1 hs1).mono ?_
 rintro e w' ⟨m, u, ds, rfl, hb, hS, hB⟩
 obtain ⟨p, c, rfl, _, _, _⟩ := rb_form hb
 exact ⟨m, p, c, ds, rfl, hb, hS, hx.trans (hB.mono hx.size), hB⟩
def BigAt (W wx : World) (z : Int) (e : Ending) (w' : World) : Prop :=
 ∃ n p c ws, e = .returned (.agg #[.bool n, .slice p (List.length ws) c]) ∧ Rd w' (.slice p ws.length c) ws ∧ Sgn B18 n ws z ∧ Below W.heap.size W w' ∧ Below wx.heap.size wx w'
theorem neg_at {W wx : World} {n1 : Bool} {u1 : Value} {xs : List Int} {z1 : Int} (hr1 : Rd W u1 xs) (hs1 : Sgn B18 n1 xs z1) (hl1 : xs.length ≤ 30) (hx : Below W.heap.size W wx) :
   Calls Tryz.prog 29 #[.agg #[.bool n1, u1]] wx (BigAt W wx (-z1)) := by
 refine (neg_good n1 u1 xs z1 wx (hr1.keep hx) hs1 hl1).mono ?_
 rintro e w' ⟨n, u, ws, rfl, hM, hS, hB⟩
 obtain ⟨p, c, rfl⟩ := MU.form hM
 have hlen : ws.length ≤ 30 := hS.small.2 (hs1.small.1 hl1).neg
 exact ⟨n, p, c, ws, rfl, hM.rd (by omega), hS, hx.trans (hB.mono hx.size), hB⟩
theorem to_at {W wx : World} {n1 : Bool} {u1 : Value} {ds : List Int} {z1 : Int} (hr1 : Rb wx u1 ds) (hs1 : Sgn 10 n1 ds z1) (hl1 : ds.length ≤ 540) (hx : Below W.heap.size W wx) :
   Calls Tryz.prog 49 #[.agg #[.bool n1, u1]] wx (BigAt W wx z1) := by
 refine (to_any n1 u1 ds z1 wx hr1 hs1 (by omega)).mono ?_
 rintro e w' ⟨n, u, ws, rfl, hM, hS, hB⟩
 obtain ⟨p, c, rfl⟩ := MU.form hM
 have hlen : ws.length ≤ 30 := hS.small.2 (hs1.fits.1 hl1)
 exact ⟨n, p, c, ws, rfl, hM.rd (by omega), hS, hx.trans (hB.mono hx.size), hB⟩
end
end
end
section
open Go.RowKit
def Src (w : World) (x : Value) (m : Nat) (news : List Value) : Prop :=
 news.length = m ∧ ((x = .slice none 0 0 ∧ m = 0) ∨ ∃ ad c, x = .slice (some ad) m c ∧ ∀ j u, news[j]? = some u → w.cell? (ad.add j) = some u)
structure Apd (W w' : World) (base : Nat) (e : TypeId) (v v' : Value) (n : Nat) (xs : List Value) : Prop where
 own : w'.ownsRow base e 1 v' n xs
 grown : W.grownBy w' v.ownBlock
 at_ : v'.ownBlock = v.ownBlock ∨ v'.ownBlock = some W.heap.size
section
variable {P : Program} {w : World} {base : Nat} {t ty e : TypeId} {z : Value} {bytes : Nat} {v x : Value} {n m : Nat} {xs news : List Value}
theorem run_app (ht : P.underlying t = some (.slice e)) (hinfo : (P.info? e).map (fun i => (i.zero, i.size, i.bytes)) = some (some z, 1, bytes)) (hz1 : z.cells.size = 1)
   (hown : w.ownsRow base e 1 v n xs) (hs : Src w x m news) (h1 : ∀ u ∈ news, u.oneCell' = true) (h63 : n + m ≤ maxLen) (hbytes : (n + m) * bytes ≤ 140737488355328) (hbase : base ≤ w.heap.size) :
   ∃ v' w', (Builtin.append_ #[t, t] ty #[v, x]).run P w = .ok v' w' ∧ Apd w w' base e v v' (n + m) (xs ++ news) := by
 obtain ⟨i, hi, hzz⟩ := Option.map_eq_some_iff.1 hinfo
 simp only [Prod.mk.injEq] at hzz
 obtain ⟨hz, hsz, hb⟩ := hzz
 obtain ⟨hl, ⟨rfl, rfl⟩ | ⟨ad, c, rfl, hc⟩⟩ := hs
 · obtain rfl := List.eq_nil_of_length_eq_zero hl
   exact ⟨v, w, run_append_owned_none (P := P) (w := w) base t ty e i 1 ht hi v n xs hown, by simpa using hown, World.grownBy.refl w _, .inl rfl⟩
 · obtain ⟨v', w', hrun, h2, h3, _, h5⟩ := run_append_own_at (P := P) w base t ty e i z 1 bytes ht hi hz hsz hb hz1 (by decide) v n xs hown ad m c news (by omega) hc h1 h63 hbytes hbase
   exact ⟨v', w', hrun, h2, h3, h5⟩
theorem wp_app {o : Oper} {a : Act} {K : Act → World → Prop} {Q : Exit → Act → World → Prop} (s y : Operand) (ho : o.op = .call { callee := .builtin .append, args := #[s, y], argTypes := #[t, t] })
   (ht : P.underlying t = some (.slice e)) (hinfo : (P.info? e).map (fun i => (i.zero, i.size, i.bytes)) = some (some z, 1, bytes)) (hz1 : z.cells.size = 1) (hv : a.eval s = v)
   (hown : w.ownsRow base e 1 v n xs) (hx : a.eval y = x) (hs : Src w x m news) (h1 : ∀ u ∈ news, u.oneCell' = true) (h63 : n + m ≤ maxLen) (hbytes : (n + m) * bytes ≤ 140737488355328) (hbase : base ≤ w.heap.size)
   (h : ∀ v' w', Apd w w' base e v v' (n + m) (xs ++ news) → K (a.put o.dst v') w') : o.wp P a w K Q := by
 obtain ⟨v', w', hr, h2⟩ := run_app (P := P) (ty := o.type) ht hinfo hz1 hown hs h1 h63 hbytes hbase
 unfold Oper.wp
 simp [execOp, ho, resolve, invoke, builtin, hv, hx, hr, Result.andThen]
 exact h v' w' h2
theorem wpList_app {ops : Array Oper} {rest : List Oper} {o : Oper} {a : Act} {Q : Exit → Act → World → Prop} (hgd : o.guard = none) (s y : Operand) (ho : o.op = .call { callee := .builtin .append, args := #[s, y], argTypes := #[t, t] })
   (ht : P.underlying t = some (.slice e)) (hinfo : (P.info? e).map (fun i => (i.zero, i.size, i.bytes)) = some (some z, 1, bytes)) (hz1 : z.cells.size = 1) (hv : a.eval s = v)
   (hown : w.ownsRow base e 1 v n xs) (hx : a.eval y = x) (hs : Src w x m news) (h1 : ∀ u ∈ news, u.oneCell' = true) (h63 : n + m ≤ maxLen) (hbytes : (n + m) * bytes ≤ 140737488355328) (hbase : base ≤ w.heap.size)
   (h : ∀ v' w', Apd w w' base e v v' (n + m) (xs ++ news) → wpList P ops Q rest (a.put o.dst v') w') : wpList P ops Q (o :: rest) a w :=
 wpList_plain hgd fun _ hK => wp_app s y ho ht hinfo hz1 hv hown hx hs h1 h63 hbytes hbase fun v' w' h2 => hK _ _ (h v' w' h2)
end
theorem src_block {w : World} {b : Nat} {cs : Array Value} {T : TypeId} {fr : Nat × Nat} {c : Nat} (hb : w.heap[b]? = some (.cells cs T fr)) : Src w (.slice (some ⟨b, 0, none⟩) cs.size c) cs.size cs.toList :=
 ⟨by simp, .inr ⟨_, c, rfl, fun j u hu => by
   have hadd : (⟨b, 0, none⟩ : Addr).add j = ⟨b, j, none⟩ := by unfold Addr.add; split <;> simp_all
   rw [hadd, cell_of_row w b j cs T fr hb]
   simpa using hu⟩⟩
theorem src_top {w : World} {b : Nat} {cs : Array Value} {T : TypeId} {c : Nat} (hb : b = w.heap.size) : Src (w.alloc (.cells cs T)) (.slice (some ⟨b, 0, none⟩) cs.size c) cs.size cs.toList := by
 subst hb
 exact src_block (heap_alloc_new w _)
theorem Apd.below {W w' : World} {base B : Nat} {e : TypeId} {v v' : Value} {n : Nat} {xs : List Value} (h : Apd W w' base e v v' n xs) (hB : B ≤ W.heap.size) (hv : ∀ g, v.ownBlock = some g → B ≤ g) : Below B W w' :=
 (Below.refl B W).grown h.grown hB (fun q hq => hv q (by first | exact hq | exact hq.symm))
end
end Go.Proofs.YtlhfemgimieooaaGreatDoor
