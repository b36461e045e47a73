/- Layer 2: WholeKeeps: what stands where. -/
import Derived.Test.YticebchmafipiaaDoorWkM
import Derived.Test.YticebchmafipiaaDoorWKnown
namespace Go.Proofs.YticebchmafipiaaDoor
open Go Go.ChangeShapes Go.WideShapes Go.ChangeAt Go.RowKit
set_option linter.unusedVariables false
set_option linter.unusedSimpArgs false
theorem room_rd {w : World} {g : Nat} {ws : List Int} (h : LU w g (roomL ws)) (hl : ws.length ≤ 17592186043904) : Rd w (.slice (some ⟨g, 0, none⟩) ws.length (ws.length + 6)) ws := by
  refine .inr ⟨g, 0, _, rfl, by omega, hl, fun i hi => ?_⟩
  have := h.cell (i := i) (by rw [roomL_len]; omega)
  rw [roomL_lo hi] at this
  rw [Nat.zero_add]; exact this
/-- A number in room of its own. -/
structure RB (W wx : World) (n : Bool) (xs : List Int) (b g : Nat) : Prop where
  box : Box2 wx b (.bool n) (.slice (some ⟨g, 0, none⟩) xs.length (xs.length + 6))
  row : LU wx g (roomL xs)
  bl : W.heap.size ≤ b
  gl : W.heap.size ≤ g
  ne : b ≠ g
  low : Below W.heap.size W wx
theorem RB.keep {W wx w' : World} {n : Bool} {xs : List Int} {b g : Nat} (h : RB W wx n xs b g) (hb : Below wx.heap.size wx w') : RB W w' n xs b g :=
  ⟨h.box.keep hb, h.row.keep hb, h.bl, h.gl, h.ne, h.low.trans (hb.mono h.low.size)⟩
/-- Room, over a world that stays fixed. -/
def RoomAt (W wx : World) (ws : List Int) (e : Ending) (w' : World) : Prop :=
  ∃ g, e = .returned (.slice (some ⟨g, 0, none⟩) ws.length (ws.length + 6)) ∧ LU w' g (roomL ws) ∧ wx.heap.size ≤ g ∧ Below W.heap.size W w' ∧ Below wx.heap.size wx w'
theorem room_at {W wx : World} {u : Value} {ws : List Int} (hr : Rd W u ws) (hx : Below W.heap.size W wx) : Calls Tryd.prog 13 #[u] wx (RoomAt W wx ws) := by
  refine (room_any u ws wx (hr.keep hx)).mono ?_
  rintro e w' ⟨g, rfl, hL, hg, hb⟩
  exact ⟨g, rfl, hL, hg, hx.trans (hb.mono hx.size), hb⟩
theorem RB.mk1 {W w3 : World} {n : Bool} {xs : List Int} {g : Nat} {a b : Value} (hL : LU w3 g (roomL xs)) (hg : W.heap.size + 1 ≤ g) (hb : Below W.heap.size W w3) (hx : Box2 w3 W.heap.size a b) :
    RB W ((w3.setCell ⟨W.heap.size, 0, none⟩ (.bool n)).setCell ⟨W.heap.size, 1, none⟩ (.slice (some ⟨g, 0, none⟩) xs.length (xs.length + 6))) n xs W.heap.size g :=
  ⟨hx.put _ _, hL.block (by rw [Below.heap_setCell _ _ _ _ (by simp; omega), Below.heap_setCell _ _ _ _ (by simp; omega)]), Nat.le_refl _, by omega, by omega, (hb.setCell (by simp) _).setCell (by simp) _⟩
theorem RB.mk2 {W w3 : World} {n : Bool} {xs : List Int} {g : Nat} {a b : Value} {T : TypeId} (hL : LU w3 g (roomL xs)) (hg : W.heap.size ≤ g) (hb : Below W.heap.size W w3) :
    RB W (((w3.alloc (.cells #[a, b] T)).setCell ⟨w3.heap.size, 0, none⟩ (.bool n)).setCell ⟨w3.heap.size, 1, none⟩ (.slice (some ⟨g, 0, none⟩) xs.length (xs.length + 6))) n xs w3.heap.size g := by
  have hl := hL.lt
  have hs := hb.size
  exact ⟨(Box2.new _ _ _ _ rfl).put _ _, (hL.keep ((Below.refl _ _).alloc (Nat.le_refl _) (.cells #[a, b] T))).block (by rw [Below.heap_setCell _ _ _ _ (by simp; omega), Below.heap_setCell _ _ _ _ (by simp; omega)]), hs, hg, by omega, ((hb.alloc hs _).setCell (by simp; omega) _).setCell (by simp; omega) _⟩
theorem RB.mk3 {W w3 : World} {n : Bool} {xs : List Int} {g : Nat} {T : TypeId} (hL : LU w3 g (roomL xs)) (hg : W.heap.size ≤ g) (hb : Below W.heap.size W w3) :
    RB W (w3.alloc (.cells #[.bool n, .slice (some ⟨g, 0, none⟩) xs.length (xs.length + 6)] T)) n xs w3.heap.size g := by
  have hl := hL.lt
  exact ⟨Box2.new _ _ _ _ rfl, hL.keep ((Below.refl _ _).alloc (Nat.le_refl _) _), hb.size, hg, by omega, hb.alloc hb.size _⟩
/-- Both numbers that came in, and their copies. -/
structure KF (w w4 : World) (n1 : Bool) (u1 : Value) (xs : List Int) (n2 : Bool) (u2 : Value) (ys : List Int) (ba ga bb gb : Nat) : Prop where
  x : Box2 w4 w.heap.size (.bool n1) u1
  y : Box2 w4 (w.heap.size + 1) (.bool n2) u2
  a : Box2 w4 ba (.bool n1) (.slice (some ⟨ga, 0, none⟩) xs.length (xs.length + 6))
  b : Box2 w4 bb (.bool n2) (.slice (some ⟨gb, 0, none⟩) ys.length (ys.length + 6))
  ra : LU w4 ga (roomL xs)
  rb : LU w4 gb (roomL ys)
  d0 : w.heap.size + 1 < ga
  d1 : ga ≠ ba
  d2 : ga ≠ bb
  d3 : ga ≠ gb
  low : Below w.heap.size w w4
theorem KF.keep {w w4 w' : World} {n1 : Bool} {u1 : Value} {xs : List Int} {n2 : Bool} {u2 : Value} {ys : List Int} {ba ga bb gb : Nat} (h : KF w w4 n1 u1 xs n2 u2 ys ba ga bb gb) (hb : Below w4.heap.size w4 w') : KF w w' n1 u1 xs n2 u2 ys ba ga bb gb :=
  ⟨h.x.keep hb, h.y.keep hb, h.a.keep hb, h.b.keep hb, h.ra.keep hb, h.rb.keep hb, h.d0, h.d1, h.d2, h.d3, h.low.trans (hb.mono h.low.size)⟩
theorem KF.mk2 {w w1 w2 w4 : World} {n1 : Bool} {u1 : Value} {xs : List Int} {n2 : Bool} {u2 : Value} {ys : List Int} {ba ga bb gb : Nat} (h1 : Below w.heap.size w w1) (hx : Box2 w1 w.heap.size (.bool n1) u1) (hy : Box2 w1 (w.heap.size + 1) (.bool n2) u2)
    (ha : RB w1 w2 n1 xs ba ga) (hb : RB w2 w4 n2 ys bb gb) : KF w w4 n1 u1 xs n2 u2 ys ba ga bb gb := by
  have la := ha.row.lt
  have ly := hy.lt
  have gl := ha.gl
  have bl := hb.bl
  have gb := hb.gl
  exact ⟨(hx.keep ha.low).keep hb.low, (hy.keep ha.low).keep hb.low, ha.box.keep hb.low, hb.box, ha.row.keep hb.low, hb.row, by omega, Ne.symm ha.ne, by omega, by omega, (h1.trans (ha.low.mono h1.size)).trans (hb.low.mono (Nat.le_trans h1.size ha.low.size))⟩
/-- What a call's answer is, by its number among the eight. -/
def KQ8 (n1 : Bool) (xs : List Int) (n2 : Bool) (ys : List Int) (k : Nat) (n : Bool) (ws : List Int) : Prop :=
  ws.length ≤ 30 ∧ match k with
  | 0 => ∃ er, KQ (goodB n1 xs && goodB n2 ys) (sg n1 (val B18 xs) + sg n2 (val B18 ys)) n ws er
  | 1 => ∃ er, KQ (goodB n1 xs && goodB n2 ys) (sg n1 (val B18 xs) - sg n2 (val B18 ys)) n ws er
  | 2 => ∃ er, KQ (goodB n1 xs && goodB n2 ys) (sg n1 (val B18 xs) * sg n2 (val B18 ys)) n ws er
  | 3 => ∃ nr rs, DQ (goodB n1 xs && (goodB n2 ys && decide (0 < ys.length))) (sg n1 (val B18 xs)) (sg n2 (val B18 ys)) n ws nr rs
  | 4 => ∃ nq qs, DQ (goodB n1 xs && (goodB n2 ys && decide (0 < ys.length))) (sg n1 (val B18 xs)) (sg n2 (val B18 ys)) nq qs n ws
  | 5 => ∃ er, KQ (goodB n1 xs) (-(sg n1 (val B18 xs))) n ws er
  | 6 => ∃ er, KQ (goodB n1 xs) (sg n1 (val B18 xs)) n ws er
  | _ => ∃ er, KQ (goodB n1 xs && goodB false []) (sg n1 (val B18 xs) + sg false (val B18 [])) n ws er
theorem KQ8.uniq {n1 : Bool} {xs : List Int} {n2 : Bool} {ys : List Int} {k : Nat} {n n' : Bool} {ws ws' : List Int} (h : KQ8 n1 xs n2 ys k n ws) (h' : KQ8 n1 xs n2 ys k n' ws') : n = n' ∧ ws = ws' := by
  have h := h.2
  have h' := h'.2
  have kq : ∀ {g : Bool} {z : Int}, (∃ er, KQ g z n ws er) → (∃ er, KQ g z n' ws' er) → n = n' ∧ ws = ws' := fun ⟨_, a⟩ ⟨_, b⟩ => ⟨(a.uniq b).1, (a.uniq b).2.1⟩
  match k, h, h' with
  | 0, h, h' => exact kq h h'
  | 1, h, h' => exact kq h h'
  | 2, h, h' => exact kq h h'
  | 3, ⟨_, _, a⟩, ⟨_, _, b⟩ => exact (DQ.uniq a b).1
  | 4, ⟨_, _, a⟩, ⟨_, _, b⟩ => exact (DQ.uniq a b).2
  | 5, h, h' => exact kq h h'
  | 6, h, h' => exact kq h h'
  | k + 7, h, h' => exact kq h h'
/-- The results so far: what the i-th is, the input decides. -/
def ZS (n1 : Bool) (xs : List Int) (n2 : Bool) (ys : List Int) (zs : List Big1) : Prop := ∀ i, i < zs.length → KQ8 n1 xs n2 ys (i % 8) (zs.getD i bz).n (zs.getD i bz).ws
theorem ZS.nil {n1 : Bool} {xs : List Int} {n2 : Bool} {ys : List Int} : ZS n1 xs n2 ys [] := fun i hi => by simp at hi
/-- Eight more. -/
theorem ZS.more {n1 : Bool} {xs : List Int} {n2 : Bool} {ys : List Int} {zs : List Big1} {k : Nat} {a0 a1 a2 a3 a4 a5 a6 a7 : Big1} (h : ZS n1 xs n2 ys zs) (hk : zs.length = 8 * k)
    (h0 : KQ8 n1 xs n2 ys 0 a0.n a0.ws) (h1 : KQ8 n1 xs n2 ys 1 a1.n a1.ws) (h2 : KQ8 n1 xs n2 ys 2 a2.n a2.ws) (h3 : KQ8 n1 xs n2 ys 3 a3.n a3.ws) (h4 : KQ8 n1 xs n2 ys 4 a4.n a4.ws) (h5 : KQ8 n1 xs n2 ys 5 a5.n a5.ws) (h6 : KQ8 n1 xs n2 ys 6 a6.n a6.ws) (h7 : KQ8 n1 xs n2 ys 7 a7.n a7.ws) :
    ZS n1 xs n2 ys (zs ++ [a0, a1, a2, a3, a4, a5, a6, a7]) := fun i hi => by
  by_cases e : i < zs.length
  · rw [app_left e]; exact h i e
  · rw [app_right (by omega)]
    rw [List.length_append] at hi
    obtain ⟨j, rfl⟩ : ∃ j, i = zs.length + j := ⟨i - zs.length, by omega⟩
    rw [Nat.add_sub_cancel_left, hk, Nat.mul_add_mod]
    have hj : j < 8 := by simpa using hi
    match j, hj with
    | 0, _ => exact h0
    | 1, _ => exact h1
    | 2, _ => exact h2
    | 3, _ => exact h3
    | 4, _ => exact h4
    | 5, _ => exact h5
    | 6, _ => exact h6
    | 7, _ => exact h7
theorem ZS.twice {n1 : Bool} {xs : List Int} {n2 : Bool} {ys : List Int} {zs : List Big1} (h : ZS n1 xs n2 ys zs) {i : Nat} (hi : i + 8 < zs.length) : (zs.getD i bz).n = (zs.getD (i + 8) bz).n ∧ (zs.getD i bz).ws = (zs.getD (i + 8) bz).ws := by
  have a := h i (by omega)
  have b := h (i + 8) hi
  rw [Nat.add_mod_right] at b
  exact a.uniq b
/-- Of, over a world that stays fixed. -/
def OfAt (V wx : World) (e : Ending) (w' : World) : Prop :=
  ∃ n u ws, e = .returned (.agg #[.bool n, u]) ∧ MU w' wx.heap.size u ws ∧ Sgn B18 n ws 1 ∧ Below V.heap.size V w' ∧ Below wx.heap.size wx w'
theorem of_atK {V wx : World} (hx : Below V.heap.size V wx) : Calls Tryd.prog 20 #[.int .i64 1] wx (OfAt V wx) := by
  refine (of_int 1 wx (by omega) (by omega)).mono ?_
  rintro e w' ⟨n, u, ws, rfl, hm, hs, hb⟩
  exact ⟨n, u, ws, rfl, hm, hs, hx.trans (hb.mono hx.size), hb⟩
def PowAt (V wx : World) (n1 : Bool) (xs : List Int) (e : Ending) (w' : World) : Prop :=
  ∃ n u ws er, e = .returned (.tuple #[.agg #[.bool n, u], .int .i64 er]) ∧ MU w' wx.heap.size u ws ∧ KQ (goodB n1 xs) (sg n1 (val B18 xs)) n ws er ∧ Below V.heap.size V w' ∧ Below wx.heap.size wx w'
theorem pow_atK {V wx : World} {n1 : Bool} {u1 : Value} {xs : List Int} (hr : Rd V u1 xs) (hf : Fit xs) (hx : Below V.heap.size V wx) {n2 : Bool} {u2 : Value} {ys : List Int} (hr2 : Rd wx u2 ys) (hs : Sgn B18 n2 ys 1) :
    Calls Tryd.prog 19 #[.agg #[.bool n1, u1], .agg #[.bool n2, u2]] wx (PowAt V wx n1 xs) := by
  refine (pow_all n1 u1 xs n2 u2 ys wx (hr.keep hx) hf hr2 hs).mono ?_
  rintro e w' ⟨n, u, ws, er, rfl, hm, hq, hb⟩
  exact ⟨n, u, ws, er, rfl, hm, hq, hx.trans (hb.mono hx.size), hb⟩
/-- A result in a box, both new. -/
structure WB (V wx : World) (b : Nat) (n : Bool) (u : Value) (ws : List Int) : Prop where
  box : Box2 wx b (.bool n) u
  mu : MU wx V.heap.size u ws
  low : Below V.heap.size V wx
theorem WB.mk1 {V wp : World} {b B0 : Nat} {n : Bool} {u : Value} {ws : List Int} {a c : Value} (hm : MU wp B0 u ws) (hB : b < B0) (hV : V.heap.size ≤ b) (hb : Below V.heap.size V wp) (hx : Box2 wp b a c) :
    WB V ((wp.setCell ⟨b, 0, none⟩ (.bool n)).setCell ⟨b, 1, none⟩ u) b n u ws :=
  ⟨hx.put _ _, (MU.set2 hm hB _ _).low (by omega), (hb.setCell (by simpa using hV) _).setCell (by simpa using hV) _⟩
theorem WB.mk2 {V wp : World} {B0 : Nat} {n : Bool} {u : Value} {ws : List Int} {a c : Value} {T : TypeId} (hm : MU wp B0 u ws) (hV : V.heap.size ≤ B0) (hb : Below V.heap.size V wp) :
    WB V (((wp.alloc (.cells #[a, c] T)).setCell ⟨wp.heap.size, 0, none⟩ (.bool n)).setCell ⟨wp.heap.size, 1, none⟩ u) wp.heap.size n u ws := by
  have hs := hb.size
  refine ⟨(Box2.new _ _ _ _ rfl).put _ _, (Mine.blk (hm.keep ((Below.refl _ _).alloc (Nat.le_refl _) (.cells #[a, c] T))) fun g hg => ?_).low hV, ((hb.alloc hs _).setCell (by simpa using hs) _).setCell (by simpa using hs) _⟩
  have := (Mine.own hm hg).2
  rw [Below.heap_setCell _ _ _ _ (by simp; omega), Below.heap_setCell _ _ _ _ (by simp; omega)]
theorem infoBig : (Tryd.prog.info? 24).map (fun i => (i.zero, i.size, i.bytes)) = some (some (.agg #[.bool false, .slice none 0 0]), 2, 32) := by kernel_rfl
/-- Within a round: the row of the eight results stands in block gl. -/
structure KJ (S0 : Nat) (V : World) (gl : Nat) (ls : List Value) (zs : List Big1) (m : Nat) (cs : List (Bool × Value)) (lv wv : Value) (wr : World) : Prop where
  ki : KI S0 wr lv wv zs m cs
  lit : ∀ i u, ls[i]? = some u → wr.cell? ⟨gl, i, none⟩ = some u
  lt : gl < wr.heap.size
  nl : lv.ownBlock ≠ some gl
  nw : wv.ownBlock ≠ some gl
  low : Below S0 V wr
section
variable {S0 : Nat} {V w w' : World} {gl : Nat} {ls : List Value} {zs : List Big1} {m : Nat} {cs : List (Bool × Value)} {lv wv lv' wv' : Value}
theorem KJ.keep (h : KJ S0 V gl ls zs m cs lv wv w) (hb : Below w.heap.size w w') : KJ S0 V gl ls zs m cs lv wv w' :=
  ⟨h.ki.keep hb, fun i u hu => below_cell hb (h.lit i u hu), Nat.lt_of_lt_of_le h.lt hb.size, h.nl, h.nw, h.low.trans (hb.mono h.ki.s0)⟩
theorem KJ.pushL (h : KJ S0 V gl ls zs m cs lv wv w) (hm : m < zs.length) {u : Value} (hu : u = (zs.getD m bz).u) (ha : Apd w w' S0 22 lv lv' (m + 1) ((zs.map (·.u)).take m ++ [u])) : KJ S0 V gl ls zs (m + 1) cs lv' wv w' := by
  have hnews : [u] = ((zs.map (·.u)).drop m).take 1 := by
    rw [List.drop_eq_getElem_cons (by simpa using hm), List.take_succ_cons, List.take_zero, List.getElem_map, hu, List.getD_eq_getElem?_getD, List.getElem?_eq_getElem hm]
    rfl
  refine ⟨h.ki.pushL (c := 1) (by omega) hnews ha, fun i x hx => ?_, Nat.lt_of_lt_of_le h.lt ha.grown.size, fun e => ?_, h.nw, h.low.trans (ha.below h.ki.s0 fun g hg => (World.ownsRow.lt h.ki.ls g hg).1)⟩
  · rw [World.cell?_of_block (w := w) (a := ⟨gl, i, none⟩) (ha.grown.block gl h.lt fun e => h.nl e.symm)]
    exact h.lit i x hx
  · rcases ha.at_ with e' | e'
    · exact h.nl (e' ▸ e)
    · rw [e'] at e
      have := h.lt
      simp only [Option.some.injEq] at e
      omega
theorem KJ.pushC {n : Bool} {u : Value} {ws : List Int} {w3 : World} (h : KJ S0 V gl ls zs m cs lv wv w) (hk : cs.length < zs.length) (hn : n = (zs.getD cs.length bz).n) (hw : ws = (zs.getD cs.length bz).ws) (h3 : KI S0 w3 lv wv zs m cs) (hm : MU w w3.heap.size u ws)
    (ha : ApdS 2 w w' S0 24 wv wv' (cs.length + 1) (flatB cs ++ [.bool n, u])) : KJ S0 V gl ls zs m (cs ++ [(n, u)]) lv wv' w' := by
  subst hw
  refine ⟨h.ki.pushC hk hn hm h3.s0 (fun g hg e => ?_) (fun g hg e => ?_) ha, fun i x hx => ?_, Nat.lt_of_lt_of_le h.lt ha.grown.size, h.nl, fun e => ?_, h.low.trans (ha.below h.ki.s0 fun g hg => (World.ownsRow.lt h.ki.was g hg).1)⟩
  · have := (Mine.own hm e).1
    have := (World.ownsRow.lt h3.ls g hg).2
    omega
  · have := (Mine.own hm e).1
    have := (World.ownsRow.lt h3.was g hg).2
    omega
  · rw [World.cell?_of_block (w := w) (a := ⟨gl, i, none⟩) (ha.grown.block gl h.lt fun e => h.nw e.symm)]
    exact h.lit i x hx
  · rcases ha.at_ with e' | e'
    · exact h.nw (e' ▸ e)
    · rw [e'] at e
      have := h.lt
      simp only [Option.some.injEq] at e
      omega
end
theorem own_at {w : World} {B sz n c : Nat} {T : TypeId} {p : Option Addr} {xs : List Value} (h : w.ownsRow B T sz (.slice p n c) n xs) (hn : 0 < n) : ∃ g, p = some ⟨g, 0, none⟩ ∧ ∀ i u, xs[i]? = some u → w.cell? ⟨g, i, none⟩ = some u := by
  rcases h.2 with ⟨_, h2⟩ | ⟨g, c', cur, he, hg, r1, r2, r3, r4, r5⟩
  · omega
  · simp only [Value.slice.injEq] at he
    obtain ⟨rfl, _, rfl⟩ := he
    refine ⟨g, rfl, fun i u hu => ?_⟩
    rw [← r5, List.getElem?_take] at hu
    split at hu
    · rw [cell_of_row w g i cur T (0, 0) r1]; simpa using hu
    · cases hu
theorem flatB_getD {us : List (Bool × Value)} {i : Nat} (h : i < us.length) : (flatB us)[i * 2]? = some (.bool (us.getD i cz).1) ∧ (flatB us)[i * 2 + 1]? = some (us.getD i cz).2 := by
  have := flatB_at us i h
  rw [List.getD_eq_getElem?_getD, List.getElem?_eq_getElem h]
  exact this
/-- The i-th copy and what it stands for. -/
theorem KI.copyAt {S0 : Nat} {w : World} {lv : Value} {pw : Option Addr} {nw cw m : Nat} {zs : List Big1} {cs : List (Bool × Value)} (h : KI S0 w lv (.slice pw nw cw) zs m cs) (hn : nw = cs.length) {i : Nat} (hi : i < cs.length) :
    ∃ g p c, pw = some ⟨g, 0, none⟩ ∧ w.cell? ⟨g, i * 2, none⟩ = some (.bool (zs.getD i bz).n) ∧ w.cell? ⟨g, i * 2 + 1, none⟩ = some (.slice p (zs.getD i bz).ws.length c) ∧ MU w S0 (.slice p (zs.getD i bz).ws.length c) (zs.getD i bz).ws := by
  subst hn
  obtain ⟨g, rfl, hc⟩ := own_at h.was (by omega)
  have hm := h.cp.mu i hi
  obtain ⟨p, c, e⟩ := MU.form hm
  have h0 := hc _ _ (flatB_getD hi).1
  have h1 := hc _ _ (flatB_getD hi).2
  rw [h.cp.n i hi] at h0
  rw [e] at h1 hm
  exact ⟨g, p, c, rfl, h0, h1, hm⟩
/-- The i-th row on the list. -/
theorem KI.rowAt {S0 : Nat} {w : World} {wv : Value} {pl : Option Addr} {nl cl : Nat} {zs : List Big1} {cs : List (Bool × Value)} (h : KI S0 w (.slice pl nl cl) wv zs nl cs) {i : Nat} (hi : i < nl) :
    ∃ g p c, pl = some ⟨g, 0, none⟩ ∧ w.cell? ⟨g, i, none⟩ = some (.slice p (zs.getD i bz).ws.length c) ∧ MU w S0 (.slice p (zs.getD i bz).ws.length c) (zs.getD i bz).ws := by
  have hm := h.hm
  obtain ⟨g, rfl, hc⟩ := own_at h.ls (by omega)
  have hu := h.rz.mu i (by omega)
  obtain ⟨p, c, e⟩ := MU.form hu
  have h0 := hc i (zs.getD i bz).u (by
    rw [List.getElem?_take, if_pos hi, List.getElem?_map, List.getD_eq_getElem?_getD, List.getElem?_eq_getElem (by omega)]; rfl)
  rw [e] at h0 hu
  exact ⟨g, p, c, rfl, h0, hu⟩
/-- What changes below all of it. -/
theorem KI.far {S0 : Nat} {w w' : World} {lv wv : Value} {zs : List Big1} {m : Nat} {cs : List (Bool × Value)} (h : KI S0 w lv wv zs m cs) (hb : ∀ b, S0 ≤ b → b < w.heap.size → w'.heap[b]? = w.heap[b]?) (hs : w.heap.size ≤ w'.heap.size) : KI S0 w' lv wv zs m cs :=
  ⟨h.rz.blk fun i g hi hg => hb g ((h.rz.mu i hi).own hg).1 ((h.rz.mu i hi).own hg).2, ⟨h.cp.le, h.cp.n, fun i hi => (h.cp.mu i hi).blk fun g hg => hb g ((h.cp.mu i hi).own hg).1 ((h.cp.mu i hi).own hg).2⟩, h.hm,
    owns_block h.ls fun g hg => hb g (World.ownsRow.lt h.ls g hg).1 (World.ownsRow.lt h.ls g hg).2, owns_block h.was fun g hg => hb g (World.ownsRow.lt h.was g hg).1 (World.ownsRow.lt h.was g hg).2, h.lz, h.wz, h.lc, h.wc, h.lw, Nat.le_trans h.s0 hs⟩
theorem grown_set {w w' : World} {g o : Nat} {x : Value} (h : w.grownBy w' (some g)) : w.grownBy (w'.setCell ⟨g, o, none⟩ x) (some g) :=
  ⟨h.os, h.tape, h.output, by have := h.size; simpa [World.setCell] using this, fun k hk hn => (Below.heap_setCell _ _ _ _ (fun e => hn (by simpa using e))).trans (h.block k hk hn)⟩
theorem Box2.far {w w' : World} {b g : Nat} {x y : Value} (h : Box2 w b x y) (hg : w.grownBy w' (some g)) (hn : b ≠ g) : Box2 w' b x y := by
  have e := hg.block b h.lt (fun e => hn (Option.some.inj e))
  exact ⟨(World.cell?_of_block (a := ⟨b, 0, none⟩) e).trans h.c0, (World.cell?_of_block (a := ⟨b, 1, none⟩) e).trans h.c1, (World.frozen?_of_block (a := ⟨b, 0, none⟩) e).trans h.f0, (World.frozen?_of_block (a := ⟨b, 1, none⟩) e).trans h.f1⟩
/-- Behind the loop that marks a's row. -/
theorem rd_threes {w : World} {g n : Nat} {os : List Int} (h : LU w g os) (hl : os.length = n + 6) (h3 : ∀ j, j < n → os.getD j 0 = 3) (hn : n ≤ 17592186043904) : Rd w (.slice (some ⟨g, 0, none⟩) n (n + 6)) (List.replicate n 3) := by
  refine .inr ⟨g, 0, _, by rw [List.length_replicate], by rw [List.length_replicate]; omega, by rw [List.length_replicate]; exact hn, fun i hi => ?_⟩
  rw [List.length_replicate] at hi
  have := h.cell (i := i) (by omega)
  rw [h3 i hi] at this
  rw [Nat.zero_add, List.getD_eq_getElem?_getD, List.getElem?_replicate, if_pos hi]
  exact this
theorem fit_threes (n : Nat) : Fit (List.replicate n 3) := fun i => by
  rw [List.getD_eq_getElem?_getD, List.getElem?_replicate]
  split <;> simp
/-- Same, over a world that stays fixed. -/
theorem same_atK {V wx : World} {n : Bool} {u1 u2 : Value} {ws : List Int} (h1 : Rd V u1 ws) (h2 : Rd V u2 ws) (hx : Below V.heap.size V wx) : Calls Tryd.prog 22 #[.agg #[.bool n, u1], .agg #[.bool n, u2]] wx (fun e w' => e = .returned (.bool true) ∧ Below V.heap.size V w') :=
  (same_self n u1 u2 ws wx (h1.keep hx) (h2.keep hx)).mono fun _ _ h => ⟨h.1, hx.trans (h.2.mono hx.size)⟩
/-- An append behind a guard that is met. -/
theorem wpList_appG {P : Program} {w : World} {base : Nat} {t e : TypeId} {z : Value} {bytes : Nat} {v x : Value} {n m : Nat} {xs news : List Value} {ops : Array Oper} {rest : List Oper} {o : Oper} {a : Act} {Q : Exit → Act → World → Prop} (hwant : Region.wanted o (yielded ops a.tmps) = true) (s y : Operand) (ho : o.op = .call { callee := .builtin .append, args := #[s, y], argTypes := #[t, t] })
    (ht : P.underlying t = some (.slice e)) (hinfo : (P.info? e).map (fun i => (i.zero, i.size, i.bytes)) = some (some z, 1, bytes)) (hz1 : z.cells.size = 1) (hv : a.eval s = v)
    (hown : w.ownsRow base e 1 v n xs) (hx : a.eval y = x) (hs : Src w x m news) (h1 : ∀ u ∈ news, u.oneCell' = true) (h63 : n + m ≤ maxLen) (hbytes : (n + m) * bytes ≤ 140737488355328) (hbase : base ≤ w.heap.size)
    (h : ∀ v' w', Apd w w' base e v v' (n + m) (xs ++ news) → wpList P ops Q rest (a.put o.dst v') w') : wpList P ops Q (o :: rest) a w := by
  unfold wpList
  rw [if_pos hwant]
  exact Or.inl (wp_app s y ho ht hinfo hz1 hv hown hx hs h1 h63 hbytes hbase h)
theorem WB.mk3 {V wp : World} {B0 : Nat} {n : Bool} {u : Value} {ws : List Int} {T : TypeId} (hm : MU wp B0 u ws) (hV : V.heap.size ≤ B0) (hb : Below V.heap.size V wp) : WB V (wp.alloc (.cells #[.bool n, u] T)) wp.heap.size n u ws :=
  ⟨Box2.new _ _ _ _ rfl, (hm.keep ((Below.refl _ _).alloc (Nat.le_refl _) _)).low hV, hb.alloc hb.size _⟩
end Go.Proofs.YticebchmafipiaaDoor
