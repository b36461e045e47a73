/- Layer 10: what lies in memory while liveness is found: the looker, rows of words, rows of places, who waits, the work list; each in blocks of its own (told apart by tags). -/
import Derived.Test.YtnniohimbmnapaaDoorKa
import Derived.Test.YtnniohimbmnapaaDoorFSound
import Derived.Test.YtnniohimbmnapaaDoorLvPure2
namespace Go.Proofs.YtnniohimbmnapaaDoor
open Go Go.ChangeShapes Go.WideShapes Go.RowKit
set_option linter.unusedVariables false
set_option linter.unusedSimpArgs false
def ints (l : List Nat) : List Int := l.map fun (x : Nat) => (x : Int)
theorem ints_len (l : List Nat) : (ints l).length = l.length := by simp [ints]
theorem ints_snoc (l : List Nat) (x : Nat) : ints (l ++ [x]) = ints l ++ [(x : Int)] := by simp [ints]
theorem ints_getD (l : List Nat) (i : Nat) : (ints l).getD i 0 = ((l.getD i 0 : Nat) : Int) := by
  unfold ints
  rw [List.getD_eq_getElem?_getD, List.getElem?_map, List.getD_eq_getElem?_getD]
  cases l[i]? <;> simp
def Blk (A : World) (b : Nat) (cs : List Value) (T : TypeId) : Prop := A.heap[b]? = some (.cells cs.toArray T (0, 0))
theorem Blk.cell {A : World} {b : Nat} {cs : List Value} {T : TypeId} (h : Blk A b cs T) {i : Nat} {v : Value} (hv : cs[i]? = some v) : A.cell? ⟨b, i, none⟩ = some v := by
  rw [cell_of_row A b i cs.toArray T (0, 0) h]; simpa using hv
theorem Blk.frozen {A : World} {b : Nat} {cs : List Value} {T : TypeId} (h : Blk A b cs T) (i : Nat) : A.frozen? ⟨b, i, none⟩ = false := by
  unfold Blk at h
  simp [World.frozen?, h]
theorem Blk.lt {A : World} {b : Nat} {cs : List Value} {T : TypeId} (h : Blk A b cs T) : b < A.heap.size := (Array.getElem?_eq_some_iff.1 h).1
theorem Blk.set {A : World} {b : Nat} {cs : List Value} {T : TypeId} (h : Blk A b cs T) (i : Nat) (v : Value) : Blk (A.setCell ⟨b, i, none⟩ v) b (cs.set i v) T := by
  unfold Blk at *
  simp [World.setCell, Array.getElem?_modify, h]
theorem Blk.block {A B : World} {b : Nat} {cs : List Value} {T : TypeId} (h : Blk A b cs T) (e : B.heap[b]? = A.heap[b]?) : Blk B b cs T := e.trans h
theorem Blk.new (A : World) (cs : List Value) (T : TypeId) : Blk (A.alloc (.cells cs.toArray T)) A.heap.size cs T := heap_alloc_new A _
def wordV (x : Nat) : Value := .int .u64 (x : Int)
theorem Blk.word {A : World} {b : Nat} {ws : List Nat} {T : TypeId} (h : Blk A b (ws.map wordV) T) {i : Nat} (hi : i < ws.length) : A.cell? ⟨b, i, none⟩ = some (.int .u64 ((ws.getD i 0 : Nat) : Int)) := h.cell (by
  rw [List.getElem?_map, List.getD_eq_getElem?_getD, List.getElem?_eq_getElem hi]; rfl)
structure Lay where
  bl : Nat
  bL : Nat
  bF : Nat
  bW : Nat
  bS : Nat
  rho : Nat → Nat
def lkC (r : RestV) (F : FuncD) (iv rv : Value) (Y : Lay) (n s : Nat) (wv : Value) : List Value :=
  [.string r.name, .int .i64 F.params, .int .i64 F.regs, .int .i64 r.frees, .bool r.gen, .int .i64 r.bound, .slice r.np r.nn r.nc, .slice r.cp r.cn r.cc, iv, rv,
   .slice (some ⟨Y.bL, 0, none⟩) n n, .slice (some ⟨Y.bF, 0, none⟩) n n, .slice (some ⟨Y.bW, 0, none⟩) n n, wv, .slice (some ⟨Y.bS, 0, none⟩) s s]
def liveC (Y : Lay) (n m s : Nat) : List Value := (List.range n).map fun x => if x < m then .slice (some ⟨Y.rho x, 0, none⟩) s s else .slice none 0 0
structure Tg (Y : Lay) (n m S0 : Nat) (tg : Nat → Nat) (FV : Nat → Value) (wv : Value) (H : Nat) : Prop where
  b0 : tg Y.bl = 0
  b1 : tg Y.bL = 1
  b2 : tg Y.bF = 2
  b3 : tg Y.bW = 3
  b4 : tg Y.bS = 4
  l0 : S0 ≤ Y.bl ∧ Y.bl < H
  l1 : S0 ≤ Y.bL ∧ Y.bL < H
  l2 : S0 ≤ Y.bF ∧ Y.bF < H
  l3 : S0 ≤ Y.bW ∧ Y.bW < H
  l4 : S0 ≤ Y.bS ∧ Y.bS < H
  row : ∀ x, x < m → tg (Y.rho x) = 6 + 2 * x ∧ S0 ≤ Y.rho x ∧ Y.rho x < H
  frow : ∀ x, x < n → ∀ g, (FV x).ownBlock = some g → tg g = 7 + 2 * x ∧ S0 ≤ g ∧ g < H
  work : ∀ g, wv.ownBlock = some g → tg g = 5 ∧ S0 ≤ g ∧ g < H
theorem Tg.mono {Y : Lay} {n m S0 : Nat} {tg : Nat → Nat} {FV : Nat → Value} {wv : Value} {H H' : Nat} (h : Tg Y n m S0 tg FV wv H) (hH : H ≤ H') : Tg Y n m S0 tg FV wv H' :=
  ⟨h.b0, h.b1, h.b2, h.b3, h.b4, ⟨h.l0.1, by have := h.l0.2; omega⟩, ⟨h.l1.1, by have := h.l1.2; omega⟩, ⟨h.l2.1, by have := h.l2.2; omega⟩, ⟨h.l3.1, by have := h.l3.2; omega⟩, ⟨h.l4.1, by have := h.l4.2; omega⟩,
   fun x hx => ⟨(h.row x hx).1, (h.row x hx).2.1, by have := (h.row x hx).2.2; omega⟩, fun x hx g hg => ⟨(h.frow x hx g hg).1, (h.frow x hx g hg).2.1, by have := (h.frow x hx g hg).2.2; omega⟩, fun g hg => ⟨(h.work g hg).1, (h.work g hg).2.1, by have := (h.work g hg).2.2; omega⟩⟩
/-- The tags with a block of its own for one more owner. -/
def tagAt (tg : Nat → Nat) (H t : Nat) : Nat → Nat := fun b => if b = H then t else tg b
theorem tagAt_lt {tg : Nat → Nat} {H t b : Nat} (h : b < H) : tagAt tg H t b = tg b := if_neg (by omega)
theorem tagAt_at (tg : Nat → Nat) (H t : Nat) : tagAt tg H t H = t := if_pos rfl
/-- A new block gets a tag: all that was there keeps its own. -/
theorem Tg.tag {Y : Lay} {n m S0 : Nat} {tg : Nat → Nat} {FV : Nat → Value} {wv : Value} {H B H' t : Nat} (h : Tg Y n m S0 tg FV wv H) (hB : H ≤ B) (hH : H ≤ H') : Tg Y n m S0 (tagAt tg B t) FV wv H' := by
  have k : ∀ b, b < H → tagAt tg B t b = tg b := fun b hb => tagAt_lt (by omega)
  exact ⟨(k _ h.l0.2).trans h.b0, (k _ h.l1.2).trans h.b1, (k _ h.l2.2).trans h.b2, (k _ h.l3.2).trans h.b3, (k _ h.l4.2).trans h.b4, ⟨h.l0.1, by have := h.l0.2; omega⟩, ⟨h.l1.1, by have := h.l1.2; omega⟩, ⟨h.l2.1, by have := h.l2.2; omega⟩, ⟨h.l3.1, by have := h.l3.2; omega⟩, ⟨h.l4.1, by have := h.l4.2; omega⟩,
    fun x hx => ⟨(k _ (h.row x hx).2.2).trans (h.row x hx).1, (h.row x hx).2.1, by have := (h.row x hx).2.2; omega⟩, fun x hx g hg => ⟨(k _ (h.frow x hx g hg).2.2).trans (h.frow x hx g hg).1, (h.frow x hx g hg).2.1, by have := (h.frow x hx g hg).2.2; omega⟩, fun g hg => ⟨(k _ (h.work g hg).2.2).trans (h.work g hg).1, (h.work g hg).2.1, by have := (h.work g hg).2.2; omega⟩⟩
theorem Tg.reWork {Y : Lay} {n m S0 : Nat} {tg : Nat → Nat} {FV : Nat → Value} {wv wv' : Value} {H : Nat} (h : Tg Y n m S0 tg FV wv H) (hw : ∀ g, wv'.ownBlock = some g → tg g = 5 ∧ S0 ≤ g ∧ g < H) : Tg Y n m S0 tg FV wv' H :=
  ⟨h.b0, h.b1, h.b2, h.b3, h.b4, h.l0, h.l1, h.l2, h.l3, h.l4, h.row, h.frow, hw⟩
structure LkX (r : RestV) (F : FuncD) (iv rv : Value) (Y : Lay) (n m s S0 : Nat) (ex : Option Nat) (H : Nat) (tg : Nat → Nat) (FV : Nat → Value) (FF : Nat → List Nat) (wv : Value) (A : World) (L : List (List Nat)) (wt : List Bool) (work sc : List Nat) : Prop where
  tgs : Tg Y n m S0 tg FV wv H
  hH : H ≤ A.heap.size
  lk : ex ≠ some 0 → Blk A Y.bl (lkC r F iv rv Y n s wv) 72
  live : ex ≠ some 1 → Blk A Y.bL (liveC Y n m s) 52
  from_ : ex ≠ some 2 → Blk A Y.bF ((List.range n).map FV) 31
  wait : ex ≠ some 3 → Blk A Y.bW (wt.map Value.bool) 4
  scr : ex ≠ some 4 → Blk A Y.bS (sc.map wordV) 53
  work_ : ex ≠ some 5 → OI A S0 wv (ints work)
  row : ∀ x, x < m → ex ≠ some (6 + 2 * x) → Blk A (Y.rho x) ((L.getD x []).map wordV) 53
  frow : ∀ x, x < n → ex ≠ some (7 + 2 * x) → OI A S0 (FV x) (ints (FF x))
section
variable {r : RestV} {F : FuncD} {iv rv : Value} {Y : Lay} {n m s S0 : Nat} {ex : Option Nat} {H : Nat} {tg : Nat → Nat} {FV : Nat → Value} {FF : Nat → List Nat} {wv : Value} {A B : World} {L : List (List Nat)} {wt : List Bool} {work sc : List Nat}
/-- All but what bears tag t is as it was. -/
theorem LkX.but (h : LkX r F iv rv Y n m s S0 none H tg FV FF wv A L wt work sc) (t : Nat) (hs : A.heap.size ≤ B.heap.size) (hk : ∀ g, S0 ≤ g → g < H → tg g ≠ t → B.heap[g]? = A.heap[g]?) :
    LkX r F iv rv Y n m s S0 (some t) H tg FV FF wv B L wt work sc := by
  have hn : ∀ k, (none : Option Nat) ≠ some k := fun k h => by cases h
  have T := h.tgs
  refine ⟨T, Nat.le_trans h.hH hs, fun e => (h.lk (hn _)).block (hk _ T.l0.1 T.l0.2 fun c => e (by rw [← c, T.b0])), fun e => (h.live (hn _)).block (hk _ T.l1.1 T.l1.2 fun c => e (by rw [← c, T.b1])), fun e => (h.from_ (hn _)).block (hk _ T.l2.1 T.l2.2 fun c => e (by rw [← c, T.b2])),
    fun e => (h.wait (hn _)).block (hk _ T.l3.1 T.l3.2 fun c => e (by rw [← c, T.b3])), fun e => (h.scr (hn _)).block (hk _ T.l4.1 T.l4.2 fun c => e (by rw [← c, T.b4])), fun e => (h.work_ (hn _)).block fun g hg => hk _ (T.work g hg).2.1 (T.work g hg).2.2 fun c => e (by rw [← c, (T.work g hg).1]),
    fun x hx e => (h.row x hx (hn _)).block (hk _ (T.row x hx).2.1 (T.row x hx).2.2 fun c => e (by rw [← c, (T.row x hx).1])), fun x hx e => (h.frow x hx (hn _)).block fun g hg => hk _ (T.frow x hx g hg).2.1 (T.frow x hx g hg).2.2 fun c => e (by rw [← c, (T.frow x hx g hg).1])⟩
/-- Nothing that lay has turned. -/
theorem LkX.keep (h : LkX r F iv rv Y n m s S0 ex H tg FV FF wv A L wt work sc) (hs : A.heap.size ≤ B.heap.size) (hk : ∀ g, S0 ≤ g → g < H → B.heap[g]? = A.heap[g]?) :
    LkX r F iv rv Y n m s S0 ex H tg FV FF wv B L wt work sc := by
  have T := h.tgs
  exact ⟨T, Nat.le_trans h.hH hs, fun e => (h.lk e).block (hk _ T.l0.1 T.l0.2), fun e => (h.live e).block (hk _ T.l1.1 T.l1.2), fun e => (h.from_ e).block (hk _ T.l2.1 T.l2.2), fun e => (h.wait e).block (hk _ T.l3.1 T.l3.2), fun e => (h.scr e).block (hk _ T.l4.1 T.l4.2),
    fun e => (h.work_ e).block fun g hg => hk _ (T.work g hg).2.1 (T.work g hg).2.2, fun x hx e => (h.row x hx e).block (hk _ (T.row x hx).2.1 (T.row x hx).2.2), fun x hx e => (h.frow x hx e).block fun g hg => hk _ (T.frow x hx g hg).2.1 (T.frow x hx g hg).2.2⟩
theorem LkX.below (h : LkX r F iv rv Y n m s S0 ex H tg FV FF wv A L wt work sc) (hb : Below A.heap.size A B) : LkX r F iv rv Y n m s S0 ex H tg FV FF wv B L wt work sc :=
  h.keep hb.size fun g _ hg => hb.block g (Nat.lt_of_lt_of_le hg h.hH)
theorem LkX.kw {K : Nat → Prop} (h : LkX r F iv rv Y n m s S0 ex H tg FV FF wv A L wt work sc) (hk : Kw K A B) (hK : ∀ g, S0 ≤ g → g < H → K g) : LkX r F iv rv Y n m s S0 ex H tg FV FF wv B L wt work sc :=
  h.keep hk.size fun g h0 hg => hk.block g (hK g h0 hg) (Nat.lt_of_lt_of_le hg h.hH)
theorem LkX.up {H' : Nat} (h : LkX r F iv rv Y n m s S0 ex H tg FV FF wv A L wt work sc) (h1 : H ≤ H') (h2 : H' ≤ A.heap.size) : LkX r F iv rv Y n m s S0 ex H' tg FV FF wv A L wt work sc :=
  ⟨h.tgs.mono h1, h2, h.lk, h.live, h.from_, h.wait, h.scr, h.work_, h.row, h.frow⟩
theorem own_cells {w : World} {T : TypeId} {kk : IntKind} {b : Nat} {v : Value} {ws : List Int} (h : OW kk T w b v ws) {g : Nat} (hg : v.ownBlock = some g) : w.heap[g]? ≠ some (.deferred (some [])) := by
  obtain ⟨h1, h2⟩ := h
  rcases h2 with ⟨rfl, _⟩ | ⟨g', cap, cur, rfl, hb, r, h3⟩
  · cases hg
  · simp only [Value.ownBlock, Option.some.injEq] at hg
    subst hg
    rw [r]; simp
theorem Blk.cells {w : World} {b : Nat} {cs : List Value} {T : TypeId} (h : Blk w b cs T) : w.heap[b]? ≠ some (.deferred (some [])) := by
  unfold Blk at h
  rw [h]; simp
/-- Where a function is left that went through loops over iterators. -/
theorem LkX.leave (h : LkX r F iv rv Y n m s S0 ex H tg FV FF wv A L wt work sc) (hs : A.heap.size ≤ B.heap.size) (hk : ∀ g, g < A.heap.size → A.heap[g]? ≠ some (.deferred (some [])) → B.heap[g]? = A.heap[g]?) :
    LkX r F iv rv Y n m s S0 ex H tg FV FF wv B L wt work sc := by
  have T := h.tgs
  have hH := h.hH
  exact ⟨T, Nat.le_trans h.hH hs, fun e => (h.lk e).block (hk _ (h.lk e).lt (h.lk e).cells), fun e => (h.live e).block (hk _ (h.live e).lt (h.live e).cells), fun e => (h.from_ e).block (hk _ (h.from_ e).lt (h.from_ e).cells), fun e => (h.wait e).block (hk _ (h.wait e).lt (h.wait e).cells), fun e => (h.scr e).block (hk _ (h.scr e).lt (h.scr e).cells),
    fun e => (h.work_ e).block fun g hg => hk _ (OW.lt (h.work_ e) hg).2 (own_cells (h.work_ e) hg), fun x hx e => (h.row x hx e).block (hk _ (h.row x hx e).lt (h.row x hx e).cells), fun x hx e => (h.frow x hx e).block fun g hg => hk _ (OW.lt (h.frow x hx e) hg).2 (own_cells (h.frow x hx e) hg)⟩
theorem LkX.box10 (h : LkX r F iv rv Y n m s S0 none H tg FV FF wv A L wt work sc) : Box10 A Y.bl r F iv rv := by
  have hb := h.lk (fun e => by cases e)
  exact ⟨hb.cell rfl, hb.cell rfl, hb.cell rfl, hb.cell rfl, hb.cell rfl, hb.cell rfl, hb.cell rfl, hb.cell rfl, hb.cell rfl, hb.cell rfl⟩
/-- Tags of blocks that none of it lies in are free. -/
theorem LkX.retag {tg' : Nat → Nat} (h : LkX r F iv rv Y n m s S0 ex H tg FV FF wv A L wt work sc) (ht : ∀ b, b < H → tg' b = tg b) : LkX r F iv rv Y n m s S0 ex H tg' FV FF wv A L wt work sc := by
  have T := h.tgs
  exact ⟨⟨(ht _ T.l0.2).trans T.b0, (ht _ T.l1.2).trans T.b1, (ht _ T.l2.2).trans T.b2, (ht _ T.l3.2).trans T.b3, (ht _ T.l4.2).trans T.b4, T.l0, T.l1, T.l2, T.l3, T.l4, fun x hx => ⟨(ht _ (T.row x hx).2.2).trans (T.row x hx).1, (T.row x hx).2⟩,
    fun x hx g hg => ⟨(ht _ (T.frow x hx g hg).2.2).trans (T.frow x hx g hg).1, (T.frow x hx g hg).2⟩, fun g hg => ⟨(ht _ (T.work g hg).2.2).trans (T.work g hg).1, (T.work g hg).2⟩⟩, h.hH, h.lk, h.live, h.from_, h.wait, h.scr, h.work_, h.row, h.frow⟩
/-- What bears tag 1 stays as it is, and its tag. -/
def Fr (tg tg' : Nat → Nat) (A B : World) : Prop := ∀ g, g < A.heap.size → tg g = 1 → tg' g = 1 ∧ B.heap[g]? = A.heap[g]?
theorem Fr.refl (tg : Nat → Nat) (A : World) : Fr tg tg A A := fun g _ h => ⟨h, rfl⟩
theorem Fr.trans {tg tg' tg'' : Nat → Nat} {A B C : World} (h : Fr tg tg' A B) (k : Fr tg' tg'' B C) (hs : A.heap.size ≤ B.heap.size) : Fr tg tg'' A C := fun g hg h1 => by
  obtain ⟨h2, h3⟩ := h g hg h1
  obtain ⟨h4, h5⟩ := k g (Nat.lt_of_lt_of_le hg hs) h2
  exact ⟨h4, h5.trans h3⟩
/-- One who waits, or no longer. -/
theorem LkX.setWait (h : LkX r F iv rv Y n m s S0 none H tg FV FF wv A L wt work sc) (x : Nat) (b : Bool) : LkX r F iv rv Y n m s S0 none H tg FV FF wv (A.setCell ⟨Y.bW, x, none⟩ (.bool b)) L (wt.set x b) work sc := by
  have hn : ∀ k, (none : Option Nat) ≠ some k := fun k h => by cases h
  have T := h.tgs
  have k := h.but (B := A.setCell ⟨Y.bW, x, none⟩ (.bool b)) 3 (by simp) fun g _ _ ht => Below.heap_setCell _ _ _ g (fun e => ht (by rw [e]; exact T.b3))
  exact ⟨k.tgs, k.hH, fun _ => k.lk (by simp), fun _ => k.live (by simp), fun _ => k.from_ (by simp), fun _ => by rw [List.map_set]; exact (h.wait (hn _)).set x _, fun _ => k.scr (by simp), fun _ => k.work_ (by simp), fun y hy _ => k.row y hy (by simp; omega), fun y hy _ => k.frow y hy (by simp; omega)⟩
theorem LkX.setScr (h : LkX r F iv rv Y n m s S0 none H tg FV FF wv A L wt work sc) (i x : Nat) : LkX r F iv rv Y n m s S0 none H tg FV FF wv (A.setCell ⟨Y.bS, i, none⟩ (.int .u64 x)) L wt work (sc.set i x) := by
  have hn : ∀ k, (none : Option Nat) ≠ some k := fun k h => by cases h
  have T := h.tgs
  have k := h.but (B := A.setCell ⟨Y.bS, i, none⟩ (.int .u64 x)) 4 (by simp) fun g _ _ ht => Below.heap_setCell _ _ _ g (fun e => ht (by rw [e]; exact T.b4))
  exact ⟨k.tgs, k.hH, fun _ => k.lk (by simp), fun _ => k.live (by simp), fun _ => k.from_ (by simp), fun _ => k.wait (by simp), fun _ => by rw [List.map_set]; exact (h.scr (hn _)).set i _, fun _ => k.work_ (by simp), fun y hy _ => k.row y hy (by simp; omega), fun y hy _ => k.frow y hy (by simp; omega)⟩
theorem LkX.setRow (h : LkX r F iv rv Y n m s S0 none H tg FV FF wv A L wt work sc) {x : Nat} (hx : x < m) (hL : x < L.length) (i d : Nat) : LkX r F iv rv Y n m s S0 none H tg FV FF wv (A.setCell ⟨Y.rho x, i, none⟩ (.int .u64 d)) (L.set x ((L.getD x []).set i d)) wt work sc := by
  have hn : ∀ k, (none : Option Nat) ≠ some k := fun k h => by cases h
  have T := h.tgs
  have k := h.but (B := A.setCell ⟨Y.rho x, i, none⟩ (.int .u64 d)) (6 + 2 * x) (by simp) fun g _ _ ht => Below.heap_setCell _ _ _ g (fun e => ht (by rw [e]; exact (T.row x hx).1))
  refine ⟨k.tgs, k.hH, fun _ => k.lk (by simp), fun _ => k.live (by simp; omega), fun _ => k.from_ (by simp; omega), fun _ => k.wait (by simp; omega), fun _ => k.scr (by simp; omega), fun _ => k.work_ (by simp; omega), fun y hy _ => ?_, fun y hy _ => k.frow y hy (by simp; omega)⟩
  rw [getD_setL _ _ _ _ _ hL]
  by_cases e : x = y
  · subst e
    rw [if_pos rfl, List.map_set]
    exact (h.row x hx (hn _)).set i _
  · rw [if_neg e]
    exact k.row y hy (by simp; omega)
/-- A row of words is copied into the scratch row. -/
theorem LkX.copyScr (h : LkX r F iv rv Y n m s S0 none H tg FV FF wv A L wt work sc) {x : Nat} (hx : x < m) (hk : Kw (fun b => b ≠ Y.bS) A B) (hb : Blk B Y.bS ((L.getD x []).map wordV) 53) : LkX r F iv rv Y n m s S0 none H tg FV FF wv B L wt work (L.getD x []) := by
  have T := h.tgs
  have k := h.but (B := B) 4 hk.size fun g _ hg ht => hk.block g (fun e => ht (by rw [e]; exact T.b4)) (Nat.lt_of_lt_of_le hg h.hH)
  exact ⟨k.tgs, k.hH, fun _ => k.lk (by simp), fun _ => k.live (by simp), fun _ => k.from_ (by simp), fun _ => k.wait (by simp), fun _ => hb, fun _ => k.work_ (by simp), fun y hy _ => k.row y hy (by simp; omega), fun y hy _ => k.frow y hy (by simp; omega)⟩
theorem liveC_at (Y : Lay) {n m s x : Nat} (hx : x < m) (hn : x < n) : (liveC Y n m s)[x]? = some (.slice (some ⟨Y.rho x, 0, none⟩) s s) := by
  unfold liveC
  rw [List.getElem?_map, List.getElem?_range hn]
  simp [hx]
theorem lkC_set (r : RestV) (F : FuncD) (iv rv : Value) (Y : Lay) (n s : Nat) (wv wv' : Value) : (lkC r F iv rv Y n s wv).set 13 wv' = lkC r F iv rv Y n s wv' := rfl
theorem own_at {v : Value} {g : Nat} (h : v.ownBlock = some g) (k : some g ≠ v.ownBlock) : False := k h.symm
/-- One more on the work list. -/
theorem LkX.pushWork {o : Obj} {wv' : Value} {x : Nat} (h : LkX r F iv rv Y n m s S0 none H tg FV FF wv A L wt work sc) (hap : Apd (A.alloc o) B S0 3 wv wv' ((ints work).length + 1) ((ints work).map (Value.int .i64) ++ [Value.int .i64 (x : Int)])) :
    LkX r F iv rv Y n m s S0 none (B.setCell ⟨Y.bl, 13, none⟩ wv').heap.size (tagAt tg (A.heap.size + 1) 5) FV FF wv' (B.setCell ⟨Y.bl, 13, none⟩ wv') L wt (work ++ [x]) sc ∧ Below S0 A (B.setCell ⟨Y.bl, 13, none⟩ wv') ∧ Fr tg (tagAt tg (A.heap.size + 1) 5) A (B.setCell ⟨Y.bl, 13, none⟩ wv') := by
  have hn : ∀ k, (none : Option Nat) ≠ some k := fun k h => by cases h
  have T := h.tgs
  have hsz := hap.grown.size
  rw [World.size_alloc] at hsz
  have hHH := h.hH
  have hB : ∀ g, g < H → tg g ≠ 5 → B.heap[g]? = A.heap[g]? := fun g hg ht => by
    rw [hap.grown.block g (by rw [World.size_alloc]; omega) (fun e => ht ((T.work g e.symm).1))]
    exact Below.heap_alloc _ _ _ (by omega)
  have hown : OI B S0 wv' (ints (work ++ [x])) := by rw [ints_snoc]; exact own_apd hap
  have hw5 : ∀ g, wv'.ownBlock = some g → tagAt tg (A.heap.size + 1) 5 g = 5 ∧ S0 ≤ g ∧ g < B.heap.size := fun g hg => by
    have hl := OW.lt hown hg
    refine ⟨?_, hl⟩
    rcases hap.at_ with e | e
    · rw [e] at hg
      have := T.work g hg
      rw [tagAt_lt (by omega)]; exact this.1
    · rw [hg] at e
      simp only [World.size_alloc, Option.some.injEq] at e
      rw [e]; exact tagAt_at _ _ _
  have k := h.but (B := B) 5 (by omega) fun g _ hg ht => hB g hg ht
  have T2 := (T.tag (B := A.heap.size + 1) (t := 5) (H' := B.heap.size) (by omega) (by omega)).reWork hw5
  have hS : S0 ≤ A.heap.size := by have := T.l0; omega
  have hc : ∀ g, g ≠ Y.bl → (B.setCell ⟨Y.bl, 13, none⟩ wv').heap[g]? = B.heap[g]? := fun g hg => Below.heap_setCell _ _ _ g hg
  refine ⟨⟨by simpa using T2, Nat.le_refl _, fun _ => ?_, fun _ => (k.live (by simp)).block (hc _ fun e => ?_), fun _ => (k.from_ (by simp)).block (hc _ fun e => ?_), fun _ => (k.wait (by simp)).block (hc _ fun e => ?_), fun _ => (k.scr (by simp)).block (hc _ fun e => ?_),
    fun _ => hown.block fun g hg => hc _ fun e => ?_, fun y hy _ => (k.row y hy (by simp; omega)).block (hc _ fun e => ?_), fun y hy _ => (k.frow y hy (by simp; omega)).block fun g hg => hc _ fun e => ?_⟩, ?_, fun g hg h1 => ⟨by rw [tagAt_lt (by omega)]; exact h1, ?_⟩⟩
  · exact (lkC_set r F iv rv Y n s wv wv') ▸ (k.lk (by simp)).set 13 wv'
  · have := T.b1; rw [e, T.b0] at this; omega
  · have := T.b2; rw [e, T.b0] at this; omega
  · have := T.b3; rw [e, T.b0] at this; omega
  · have := T.b4; rw [e, T.b0] at this; omega
  · have h5 := hw5 g hg
    rw [e, tagAt_lt (by have := T.l0.2; omega), T.b0] at h5
    omega
  · have := (T.row y hy).1; rw [e, T.b0] at this; omega
  · have := (T.frow y hy g hg).1; rw [e, T.b0] at this; omega
  · exact (((Below.refl S0 A).alloc hS _).trans (hap.below (by rw [World.size_alloc]; omega) (fun g hg => (T.work g hg).2.1))).setCell (by dsimp only; exact T.l0.1) _
  · rw [hc g (fun e => by rw [e, T.b0] at h1; omega), hap.grown.block g (by rw [World.size_alloc]; omega) (fun e => by have := (T.work g e.symm).1; omega)]
    exact Below.heap_alloc _ _ _ hg
end
end Go.Proofs.YtnniohimbmnapaaDoor
