/- Layer 10: the ways seen from their ends, and the readers of a register: what the document's Live gathers, and how it lies in memory. -/
import Derived.Test.YtnniohimbmnapaaDoorSpread
namespace Go.Proofs.YtnniohimbmnapaaDoor
open Go Go.ChangeShapes Go.WideShapes Go.RowKit
set_option linter.unusedVariables false
set_option linter.unusedSimpArgs false
def pushW (x : Nat) (ff : Nat → List (Nat × List Nat)) (w : Nat × List Nat) : Nat → List (Nat × List Nat) := fun y => if y = w.1 then ff y ++ [(x, w.2)] else ff y
def bbAll (F : FuncD) (k : Nat) : Nat → List (Nat × List Nat) := (List.range k).foldl (fun ff x => (waysN F x).foldl (pushW x) ff) (fun _ => [])
theorem bbAll_succ (F : FuncD) (k : Nat) : bbAll F (k + 1) = (waysN F k).foldl (pushW k) (bbAll F k) := by
  unfold bbAll
  rw [List.range_succ, List.foldl_append]; rfl
theorem pushW_mem {x y : Nat} {p : Nat × List Nat} : ∀ (ws : List (Nat × List Nat)) (ff : Nat → List (Nat × List Nat)), p ∈ (ws.foldl (pushW x) ff) y ↔ p ∈ ff y ∨ (p.1 = x ∧ (y, p.2) ∈ ws)
  | [], ff => by simp
  | w :: ws, ff => by
    rw [List.foldl_cons, pushW_mem ws (pushW x ff w)]
    unfold pushW
    obtain ⟨p1, p2⟩ := p
    obtain ⟨w1, w2⟩ := w
    by_cases e : y = w1
    · subst e
      simp only [if_true, List.mem_append, List.mem_cons, List.not_mem_nil, or_false, Prod.mk.injEq, true_and]
      constructor
      · rintro ((h | ⟨h1, h2⟩) | ⟨h1, h2⟩)
        · exact .inl h
        · exact .inr ⟨h1, .inl h2⟩
        · exact .inr ⟨h1, .inr h2⟩
      · rintro (h | ⟨h1, h2 | h2⟩)
        · exact .inl (.inl h)
        · exact .inl (.inr ⟨h1, h2⟩)
        · exact .inr ⟨h1, h2⟩
    · rw [if_neg e]
      simp only [List.mem_cons, Prod.mk.injEq, e, false_and, false_or]
theorem bbAll_mem {F : FuncD} {y : Nat} {p : Nat × List Nat} : ∀ (k : Nat), p ∈ bbAll F k y ↔ p.1 < k ∧ (y, p.2) ∈ waysN F p.1
  | 0 => by simp [bbAll]
  | k + 1 => by
    rw [bbAll_succ, pushW_mem, bbAll_mem k]
    constructor
    · rintro (⟨h1, h2⟩ | ⟨h1, h2⟩)
      · exact ⟨by omega, h2⟩
      · exact ⟨by omega, by rw [h1]; exact h2⟩
    · rintro ⟨h1, h2⟩
      by_cases e : p.1 = k
      · exact .inr ⟨e, by rw [← e]; exact h2⟩
      · exact .inl ⟨by omega, h2⟩
theorem back_ok (F : FuncD) : BackOk (grOf F) (bbAll F F.ins.length) :=
  ⟨fun y _ p hp => ((bbAll_mem _).1 hp).1, fun y _ p hp => ((bbAll_mem _).1 hp).2, fun x hx w hw => (bbAll_mem _).2 ⟨hx, hw⟩⟩
theorem blens_push (x : Nat) (ff : Nat → List (Nat × List Nat)) (w : Nat × List Nat) : ∀ m, blens (pushW x ff w) m ≤ blens ff m + 1 ∧ (m ≤ w.1 → blens (pushW x ff w) m = blens ff m)
  | 0 => ⟨by simp [blens], fun _ => rfl⟩
  | m + 1 => by
    obtain ⟨h1, h2⟩ := blens_push x ff w m
    rw [blens, blens]
    unfold pushW at h1 h2 ⊢
    by_cases e : m = w.1
    · have := h2 (by omega)
      rw [this, if_pos e, List.length_append, List.length_singleton]
      exact ⟨by omega, fun h => by omega⟩
    · rw [if_neg e]
      exact ⟨by omega, fun h => by rw [h2 (by omega)]⟩
theorem blens_fold (x m : Nat) : ∀ (ws : List (Nat × List Nat)) (ff : Nat → List (Nat × List Nat)), blens (ws.foldl (pushW x) ff) m ≤ blens ff m + ws.length
  | [], ff => by simp
  | w :: ws, ff => by
    have h1 := blens_fold x m ws (pushW x ff w)
    have h2 := (blens_push x ff w m).1
    rw [List.foldl_cons, List.length_cons]
    omega
theorem blens_zero : ∀ m, blens (fun _ => []) m = 0
  | 0 => rfl
  | m + 1 => by rw [blens, blens_zero m]; rfl
theorem blens_all (F : FuncD) (m : Nat) : ∀ k, blens (bbAll F k) m ≤ 3 * k
  | 0 => by rw [show bbAll F 0 = fun _ => [] from rfl, blens_zero]; omega
  | k + 1 => by
    rw [bbAll_succ]
    have h1 := blens_fold k m (waysN F k) (bbAll F k)
    have h2 := blens_all F m k
    have h3 := waysD_le F k
    have h4 := waysN_len F k
    omega
theorem blens_at {BB : Nat → List (Nat × List Nat)} {y : Nat} : ∀ m, y < m → (BB y).length ≤ blens BB m
  | m + 1, h => by
    rw [blens]
    by_cases e : y = m
    · subst e; omega
    · have := blens_at (BB := BB) m (by omega : y < m); omega
def pushR (x : Nat) (ff : Nat → List Nat) (r : Nat) : Nat → List Nat := fun q => if q = r then ff q ++ [x] else ff q
def rrAll (F : FuncD) (k : Nat) : Nat → List Nat := (List.range k).foldl (fun ff x => (readsN F x).foldl (pushR x) ff) (fun _ => [])
theorem rrAll_succ (F : FuncD) (k : Nat) : rrAll F (k + 1) = (readsN F k).foldl (pushR k) (rrAll F k) := by
  unfold rrAll
  rw [List.range_succ, List.foldl_append]; rfl
theorem pushR_mem {x q z : Nat} : ∀ (rs : List Nat) (ff : Nat → List Nat), z ∈ (rs.foldl (pushR x) ff) q ↔ z ∈ ff q ∨ (z = x ∧ q ∈ rs)
  | [], ff => by simp
  | r :: rs, ff => by
    rw [List.foldl_cons, pushR_mem rs (pushR x ff r)]
    unfold pushR
    by_cases e : q = r
    · subst e
      simp only [if_true, List.mem_append, List.mem_cons, List.not_mem_nil, or_false, true_or, and_true]
      constructor
      · rintro ((h | h) | ⟨h, _⟩)
        · exact .inl h
        · exact .inr h
        · exact .inr h
      · rintro (h | h)
        · exact .inl (.inl h)
        · exact .inl (.inr h)
    · rw [if_neg e]
      simp only [List.mem_cons, e, false_or]
theorem rrAll_mem {F : FuncD} {q z : Nat} : ∀ (k : Nat), z ∈ rrAll F k q ↔ z < k ∧ q ∈ readsN F z
  | 0 => by simp [rrAll]
  | k + 1 => by
    rw [rrAll_succ, pushR_mem, rrAll_mem k]
    constructor
    · rintro (⟨h1, h2⟩ | ⟨rfl, h2⟩)
      · exact ⟨by omega, h2⟩
      · exact ⟨by omega, h2⟩
    · rintro ⟨h1, h2⟩
      by_cases e : z = k
      · exact .inr ⟨e, by rw [← e]; exact h2⟩
      · exact .inl ⟨by omega, h2⟩
theorem pushR_len (x q : Nat) : ∀ (rs : List Nat) (ff : Nat → List Nat), (rs.foldl (pushR x) ff q).length ≤ (ff q).length + rs.length
  | [], ff => by simp
  | r :: rs, ff => by
    have h := pushR_len x q rs (pushR x ff r)
    rw [List.foldl_cons, List.length_cons]
    have h2 : (pushR x ff r q).length ≤ (ff q).length + 1 := by unfold pushR; split <;> simp
    omega
theorem rrAll_len {F : FuncD} {M q : Nat} : ∀ k, (∀ x, x < k → (readsN F x).length ≤ M) → (rrAll F k q).length ≤ M * k
  | 0, _ => by simp [rrAll]
  | k + 1, h => by
    rw [rrAll_succ]
    have h1 := pushR_len k q (readsN F k) (rrAll F k)
    have h2 := rrAll_len (q := q) k (fun x hx => h x (by omega))
    have h3 := h k (by omega)
    rw [Nat.mul_succ]
    omega
theorem infoBack : (Tryd.prog.info? 77).map (fun i => (i.zero, i.size, i.bytes)) = some (some (.agg #[.int .i64 0, .slice none 0 0]), 2, 32) := by kernel_rfl
/-- A row of ways seen from their ends; the lists of what they write lie in blocks that Kt names. -/
def BO (w : World) (B : Nat) (v : Value) (ls : List (Nat × List Nat)) (Kt : Nat → Prop) : Prop :=
  ∃ us : List (Int × Value), us.length = ls.length ∧ w.ownsRow B 77 2 v ls.length (flat us) ∧
    ∀ i, i < ls.length → (us.getD i usZ).1 = ((ls.getD i (0, [])).1 : Int) ∧ OI w B (us.getD i usZ).2 (ints (ls.getD i (0, [])).2) ∧ ∀ g, (us.getD i usZ).2.ownBlock = some g → Kt g
theorem BO.nil (w : World) (B : Nat) (Kt : Nat → Prop) : BO w B (.slice none 0 0) [] Kt := ⟨[], rfl, World.ownsRow_nil w B _ 2, fun i h => by simp at h⟩
theorem ownsRow_lt {w : World} {B sz n g : Nat} {T : TypeId} {v : Value} {xs : List Value} (h : w.ownsRow B T sz v n xs) (hg : v.ownBlock = some g) : B ≤ g ∧ g < w.heap.size := by
  rcases h.2 with ⟨rfl, _⟩ | ⟨g', c, cur, rfl, h0, hh, _⟩
  · cases hg
  · simp only [Value.ownBlock, Option.some.injEq] at hg
    subst hg
    exact ⟨h0, (Array.getElem?_eq_some_iff.1 hh).1⟩
theorem ownsRow_block {w w' : World} {B sz n : Nat} {T : TypeId} {v : Value} {xs : List Value} (h : w.ownsRow B T sz v n xs) (hb : ∀ g, v.ownBlock = some g → w'.heap[g]? = w.heap[g]?) : w'.ownsRow B T sz v n xs := by
  refine ⟨h.1, ?_⟩
  rcases h.2 with h2 | ⟨g, c, cur, rfl, h0, hg, r⟩
  · exact .inl h2
  · exact .inr ⟨g, c, cur, rfl, h0, (hb g rfl).trans hg, r⟩
theorem BO.own_lt {w : World} {B g : Nat} {v : Value} {ls : List (Nat × List Nat)} {Kt : Nat → Prop} (h : BO w B v ls Kt) (hg : v.ownBlock = some g) : B ≤ g ∧ g < w.heap.size := by
  obtain ⟨us, _, h2, _⟩ := h
  exact ownsRow_lt h2 hg
theorem BO.step {w w' : World} {B : Nat} {v : Value} {ls : List (Nat × List Nat)} {Kt Kt' : Nat → Prop} (h : BO w B v ls Kt) (hv : ∀ g, v.ownBlock = some g → w'.heap[g]? = w.heap[g]?) (hk : ∀ g, B ≤ g → g < w.heap.size → Kt g → Kt' g ∧ w'.heap[g]? = w.heap[g]?) : BO w' B v ls Kt' := by
  obtain ⟨us, h1, h2, h3⟩ := h
  refine ⟨us, h1, ownsRow_block h2 hv, fun i hi => ?_⟩
  obtain ⟨a, b, c⟩ := h3 i hi
  exact ⟨a, OW.block b fun g hg => (hk g (OW.lt b hg).1 (OW.lt b hg).2 (c g hg)).2, fun g hg => (hk g (OW.lt b hg).1 (OW.lt b hg).2 (c g hg)).1⟩
theorem BO.type {w : World} {B g : Nat} {v : Value} {ls : List (Nat × List Nat)} {Kt : Nat → Prop} (h : BO w B v ls Kt) (hg : v.ownBlock = some g) : ∃ cur, w.heap[g]? = some (.cells cur 77 (0, 0)) := by
  obtain ⟨us, _, h2, _⟩ := h
  rcases h2.2 with ⟨rfl, _⟩ | ⟨g', c, cur, rfl, h0, hh, _⟩
  · cases hg
  · simp only [Value.ownBlock, Option.some.injEq] at hg
    subst hg
    exact ⟨cur, hh⟩
def updF {α : Type} (f : Nat → α) (k : Nat) (v : α) : Nat → α := fun x => if x = k then v else f x
theorem map_upd {α : Type} (f : Nat → α) (n k : Nat) (v : α) : ((List.range n).map f).set k v = (List.range n).map (updF f k v) := by
  refine List.ext_getElem (by simp) fun i h1 h2 => ?_
  rw [List.getElem_set]
  simp only [List.getElem_map, List.getElem_range, updF]
  by_cases e : k = i
  · rw [if_pos e, if_pos e.symm]
  · rw [if_neg e, if_neg (fun h => e h.symm)]
def outL (rho : Nat → Nat) (n m s : Nat) : List Value := (List.range n).map fun x => if x < m then .slice (some ⟨rho x, 0, none⟩) s s else .slice none 0 0
theorem outL_all (rho : Nat → Nat) (n s : Nat) : outL rho n n s = rowC rho n s := by
  unfold outL rowC
  refine List.map_congr_left fun x hx => ?_
  rw [if_pos (by simpa using hx)]
theorem outL_none (rho : Nat → Nat) (n s : Nat) : outL rho n 0 s = List.replicate n (.slice none 0 0) := by
  unfold outL
  simp only [Nat.not_lt_zero, if_false]
  refine List.ext_getElem (by simp) fun i h1 h2 => by simp
theorem outL_set (rho : Nat → Nat) {n k s b : Nat} (hk : k < n) : (outL rho n k s).set k (.slice (some ⟨b, 0, none⟩) s s) = outL (updF rho k b) n (k + 1) s := by
  unfold outL
  refine List.ext_getElem (by simp) fun i h1 h2 => ?_
  rw [List.getElem_set]
  simp only [List.getElem_map, List.getElem_range, updF]
  by_cases e : k = i
  · subst e; simp
  · rw [if_neg e]
    by_cases h : i < k
    · rw [if_pos h, if_pos (by omega), if_neg (by omega)]
    · rw [if_neg h, if_neg (by omega)]
structure LM (bO bB bR n m R s S0 : Nat) (tg rho : Nat → Nat) (BV : Nat → Value) (BB : Nat → List (Nat × List Nat)) (RV : Nat → Value) (RR : Nat → List Nat) (A : World) : Prop where
  out : Blk A bO (outL rho n m s) 52
  back : Blk A bB ((List.range n).map BV) 75
  red : Blk A bR ((List.range R).map RV) 31
  row : ∀ x, x < m → Blk A (rho x) ((List.replicate s 0).map wordV) 53
  brow : ∀ y, y < n → BO A S0 (BV y) (BB y) (fun g => tg g = 0)
  rrow : ∀ q, q < R → OI A S0 (RV q) (ints (RR q))
  tO : tg bO = 3
  tB : tg bB = 1
  tR : tg bR = 2
  trow : ∀ x, x < m → tg (rho x) = 0
  tback : ∀ y, y < n → ∀ g, (BV y).ownBlock = some g → tg g = 4 + 2 * y
  tred : ∀ q, q < R → ∀ g, (RV q).ownBlock = some g → tg g = 5 + 2 * q
  lO : S0 ≤ bO
  lB : S0 ≤ bB
  lR : S0 ≤ bR
  lrow : ∀ x, x < m → S0 ≤ rho x
  inj : ∀ x y, x < m → y < m → rho x = rho y → x = y
  fresh : ∀ b, A.heap.size ≤ b → tg b = 0
/-- One step: what bears no tag stays, and what lay below. -/
structure Stp (b0 S0 : Nat) (tg tg' : Nat → Nat) (A C : World) : Prop where
  tag : ∀ b, b < A.heap.size → tg' b = tg b
  kw : Kw (fun g => g < S0 ∨ tg g = 0) A C
section
variable {bO bB bR n m R s S0 : Nat} {tg rho : Nat → Nat} {BV : Nat → Value} {BB : Nat → List (Nat × List Nat)} {RV : Nat → Value} {RR : Nat → List Nat} {A C : World}
theorem LM.keep (h : LM bO bB bR n m R s S0 tg rho BV BB RV RR A) (hb : Below A.heap.size A C) : LM bO bB bR n m R s S0 tg rho BV BB RV RR C := by
  have hk : ∀ g, g < A.heap.size → C.heap[g]? = A.heap[g]? := fun g hg => hb.block g hg
  exact ⟨h.out.block (hk _ h.out.lt), h.back.block (hk _ h.back.lt), h.red.block (hk _ h.red.lt), fun x hx => (h.row x hx).block (hk _ (h.row x hx).lt), fun y hy => (h.brow y hy).step (fun g hg => hk g ((h.brow y hy).own_lt hg).2) (fun g _ h2 h3 => ⟨h3, hk g h2⟩), fun q hq => (h.rrow q hq).keep hb,
    h.tO, h.tB, h.tR, h.trow, h.tback, h.tred, h.lO, h.lB, h.lR, h.lrow, h.inj, fun b hb2 => h.fresh b (by have := hb.size; omega)⟩
theorem LM.newRow {arr : Array Value} (h : LM bO bB bR n m R s S0 tg rho BV BB RV RR A) (hm : m < n) (ha : arr.toList = (List.replicate s 0).map wordV) :
    LM bO bB bR n (m + 1) R s S0 tg (updF rho m A.heap.size) BV BB RV RR ((A.setCell ⟨bO, m, none⟩ (.slice (some ⟨A.heap.size, 0, none⟩) s s)).alloc (.cells arr 53)) ∧
    Stp bO S0 tg tg A ((A.setCell ⟨bO, m, none⟩ (.slice (some ⟨A.heap.size, 0, none⟩) s s)).alloc (.cells arr 53)) := by
  obtain ⟨C, hC⟩ : ∃ C, (A.setCell ⟨bO, m, none⟩ (.slice (some ⟨A.heap.size, 0, none⟩) s s)).alloc (.cells arr 53) = C := ⟨_, rfl⟩
  have hsz : C.heap.size = A.heap.size + 1 := by rw [← hC]; simp
  have hO := h.out.lt
  have hk : ∀ g, g < A.heap.size → tg g ≠ 3 → C.heap[g]? = A.heap[g]? := fun g hg ht => by
    rw [← hC, Below.heap_alloc _ _ _ (by simpa using hg)]
    exact Below.heap_setCell _ _ _ g (fun e => ht (by rw [e]; exact h.tO))
  have hrow : Blk C A.heap.size ((List.replicate s 0).map wordV) 53 := by
    rw [← hC]
    exact blk_arrS (by simp) ha
  have hout : Blk C bO (outL (updF rho m A.heap.size) n (m + 1) s) 52 := by
    rw [← hC, ← outL_set rho hm]
    exact (h.out.set m _).block (Below.heap_alloc _ _ _ (by simpa using hO))
  have hkw : Kw (fun g => g < S0 ∨ tg g = 0) A C := by
    rw [← hC]
    refine ((Kw.refl _ A).setCell _ _ (fun hr => ?_)).alloc _
    rcases hr with h1 | h1
    · have := h.lO; dsimp only at h1; omega
    · dsimp only at h1; rw [h.tO] at h1; omega
  rw [hC]
  refine ⟨⟨hout, h.back.block (hk _ h.back.lt (by rw [h.tB]; omega)), h.red.block (hk _ h.red.lt (by rw [h.tR]; omega)), fun x hx => ?_, fun y hy => (h.brow y hy).step (fun g hg => hk g ((h.brow y hy).own_lt hg).2 (by rw [h.tback y hy g hg]; omega)) (fun g _ h2 h3 => ⟨h3, hk g h2 (by rw [h3]; omega)⟩),
    fun q hq => OW.block (h.rrow q hq) fun g hg => hk g (OW.lt (h.rrow q hq) hg).2 (by rw [h.tred q hq g hg]; omega), h.tO, h.tB, h.tR, fun x hx => ?_, h.tback, h.tred, h.lO, h.lB, h.lR, fun x hx => ?_, fun x y hx hy => ?_, fun b hb => h.fresh b (by omega)⟩, fun b _ => rfl, hkw⟩
  · unfold updF
    by_cases e : x = m
    · rw [if_pos e]; exact hrow
    · rw [if_neg e]
      exact (h.row x (by omega)).block (hk _ (h.row x (by omega)).lt (by rw [h.trow x (by omega)]; omega))
  · unfold updF
    by_cases e : x = m
    · rw [if_pos e]; exact h.fresh _ (Nat.le_refl _)
    · rw [if_neg e]; exact h.trow x (by omega)
  · unfold updF
    by_cases e : x = m
    · rw [if_pos e]; have := h.lO; omega
    · rw [if_neg e]; exact h.lrow x (by omega)
  · unfold updF
    by_cases e : x = m <;> by_cases e2 : y = m
    · intro _; omega
    · rw [if_pos e, if_neg e2]
      intro h3
      have := (h.row y (by omega)).lt
      omega
    · rw [if_neg e, if_pos e2]
      intro h3
      have := (h.row x (by omega)).lt
      omega
    · rw [if_neg e, if_neg e2]
      exact h.inj x y (by omega) (by omega)
theorem LM.pushBack {o : Obj} {w' : World} {v' u : Value} {x tq : Nat} {ws : List Nat} {us : List (Int × Value)} (h : LM bO bB bR n m R s S0 tg rho BV BB RV RR A) (ht : tq < n)
    (h1 : us.length = (BB tq).length) (h3 : ∀ i, i < (BB tq).length → (us.getD i usZ).1 = (((BB tq).getD i (0, [])).1 : Int) ∧ OI A S0 (us.getD i usZ).2 (ints ((BB tq).getD i (0, [])).2) ∧ ∀ g, (us.getD i usZ).2.ownBlock = some g → tg g = 0)
    (hu : OI A S0 u (ints ws)) (hut : ∀ g, u.ownBlock = some g → tg g = 0)
    (hap : ApdS 2 (A.alloc o) w' S0 77 (BV tq) v' ((BB tq).length + 1) (flat us ++ [.int .i64 (x : Int), u])) :
    ∃ tg', LM bO bB bR n m R s S0 tg' rho (updF BV tq v') (updF BB tq (BB tq ++ [(x, ws)])) RV RR (w'.setCell ⟨bB, tq, none⟩ v') ∧ Stp bB S0 tg tg' A (w'.setCell ⟨bB, tq, none⟩ v') := by
  have hsz := hap.grown.size
  rw [World.size_alloc] at hsz
  have hBl := h.back.lt
  obtain ⟨tg', htg, hfr, hv'⟩ : ∃ tg' : Nat → Nat, (∀ b, b < A.heap.size → tg' b = tg b) ∧ (∀ b, w'.heap.size ≤ b → tg' b = 0) ∧ (∀ g, v'.ownBlock = some g → tg' g = 4 + 2 * tq) := by
    rcases hap.at_ with e | e
    · exact ⟨tg, fun _ _ => rfl, fun b hb => h.fresh b (by omega), fun g hg => h.tback tq ht g (e ▸ hg)⟩
    · rw [World.size_alloc] at e
      have hl := ownsRow_lt hap.own e
      exact ⟨fun b => if b = A.heap.size + 1 then 4 + 2 * tq else tg b, fun b hb => if_neg (by omega), fun b hb => (if_neg (by omega)).trans (h.fresh b (by omega)), fun g hg => by
        rw [hg] at e
        simp only [Option.some.injEq] at e
        exact if_pos e⟩
  have hk : ∀ g, g < A.heap.size → tg g ≠ 4 + 2 * tq → w'.heap[g]? = A.heap[g]? := fun g hg hne => by
    rw [hap.grown.block g (by rw [World.size_alloc]; omega) (fun e => hne (h.tback tq ht g e.symm))]
    exact Below.heap_alloc _ _ _ hg
  obtain ⟨C, hC⟩ : ∃ C, w'.setCell ⟨bB, tq, none⟩ v' = C := ⟨_, rfl⟩
  have hszC : C.heap.size = w'.heap.size := by rw [← hC]; simp
  have hcb : ∀ g, g ≠ bB → C.heap[g]? = w'.heap[g]? := fun g hg => by rw [← hC]; exact Below.heap_setCell _ _ _ g hg
  have hkC : ∀ g, g < A.heap.size → tg g ≠ 1 → tg g ≠ 4 + 2 * tq → C.heap[g]? = A.heap[g]? := fun g hg h1 h2 => (hcb g (fun e => h1 (by rw [e]; exact h.tB))).trans (hk g hg h2)
  have hback : Blk C bB ((List.range n).map (updF BV tq v')) 75 := by
    rw [← hC, ← map_upd]
    exact (h.back.block (hk _ hBl (by rw [h.tB]; omega))).set tq v'
  have hkw : Kw (fun g => g < S0 ∨ tg g = 0) A C := by
    rw [← hC]
    refine (((Kw.refl _ A).alloc _).grown hap.grown (fun g hg hr => ?_)).setCell _ _ (fun hr => ?_)
    · rcases hr with h1 | h1
      · have := (h.brow tq ht).own_lt hg; omega
      · rw [h.tback tq ht g hg] at h1; omega
    · rcases hr with h1 | h1
      · have := h.lB; dsimp only at h1; omega
      · dsimp only at h1; rw [h.tB] at h1; omega
  have hoi : ∀ {u2 : Value} {ws2 : List Nat}, OI A S0 u2 (ints ws2) → (∀ g, u2.ownBlock = some g → tg g = 0) → OI C S0 u2 (ints ws2) ∧ ∀ g, u2.ownBlock = some g → tg' g = 0 := fun h4 h5 =>
    ⟨OW.block h4 fun g hg => hkC g (OW.lt h4 hg).2 (by rw [h5 g hg]; omega) (by rw [h5 g hg]; omega), fun g hg => by rw [htg g (OW.lt h4 hg).2]; exact h5 g hg⟩
  rw [hC]
  refine ⟨tg', ⟨h.out.block (hkC _ h.out.lt (by rw [h.tO]; omega) (by rw [h.tO]; omega)), hback, h.red.block (hkC _ h.red.lt (by rw [h.tR]; omega) (by rw [h.tR]; omega)), fun x hx => (h.row x hx).block (hkC _ (h.row x hx).lt (by rw [h.trow x hx]; omega) (by rw [h.trow x hx]; omega)), fun y hy => ?_,
    fun q hq => OW.block (h.rrow q hq) fun g hg => hkC g (OW.lt (h.rrow q hq) hg).2 (by rw [h.tred q hq g hg]; omega) (by rw [h.tred q hq g hg]; omega), (htg _ h.out.lt).trans h.tO, (htg _ hBl).trans h.tB, (htg _ h.red.lt).trans h.tR, fun x hx => (htg _ (h.row x hx).lt).trans (h.trow x hx),
    fun y hy g hg => ?_, fun q hq g hg => (htg g (OW.lt (h.rrow q hq) hg).2).trans (h.tred q hq g hg), h.lO, h.lB, h.lR, h.lrow, h.inj, fun b hb => hfr b (by omega)⟩, htg, hkw⟩
  · unfold updF
    by_cases e : y = tq
    · rw [if_pos e, if_pos e]
      refine ⟨us ++ [((x : Int), u)], by simp [h1], ?_, fun i hi => ?_⟩
      · rw [List.length_append, List.length_singleton, flat_append]
        exact ownsRow_block hap.own fun g hg => hcb g fun e2 => by
          have h6 := hv' g hg
          rw [e2, htg _ hBl, h.tB] at h6
          omega
      · rw [getD_snoc, getD_snoc, h1]
        by_cases e3 : i = (BB tq).length
        · rw [if_pos e3, if_pos e3]
          exact ⟨rfl, hoi hu hut⟩
        · rw [if_neg e3, if_neg e3]
          have h7 := h3 i (by simp at hi; omega)
          exact ⟨h7.1, hoi h7.2.1 h7.2.2⟩
    · rw [if_neg e, if_neg e]
      exact (h.brow y hy).step (fun g hg => hkC g ((h.brow y hy).own_lt hg).2 (by rw [h.tback y hy g hg]; omega) (by rw [h.tback y hy g hg]; omega)) (fun g _ h8 h9 => ⟨by rw [htg g h8]; exact h9, hkC g h8 (by rw [h9]; omega) (by rw [h9]; omega)⟩)
  · unfold updF at hg
    by_cases e : y = tq
    · rw [if_pos e] at hg
      rw [e]; exact hv' g hg
    · rw [if_neg e] at hg
      rw [htg g ((h.brow y hy).own_lt hg).2]
      exact h.tback y hy g hg
theorem LM.pushRead {o : Obj} {w' : World} {v' : Value} {x q : Nat} (h : LM bO bB bR n m R s S0 tg rho BV BB RV RR A) (hq : q < R)
    (hap : Apd (A.alloc o) w' S0 3 (RV q) v' ((ints (RR q)).length + 1) ((ints (RR q)).map (Value.int .i64) ++ [.int .i64 (x : Int)])) :
    ∃ tg', LM bO bB bR n m R s S0 tg' rho BV BB (updF RV q v') (updF RR q (RR q ++ [x])) (w'.setCell ⟨bR, q, none⟩ v') ∧ Stp bR S0 tg tg' A (w'.setCell ⟨bR, q, none⟩ v') := by
  have hsz := hap.grown.size
  rw [World.size_alloc] at hsz
  have hBl := h.red.lt
  have hown : OI w' S0 v' (ints (RR q ++ [x])) := by rw [ints_snoc]; exact own_apd hap
  obtain ⟨tg', htg, hfr, hv'⟩ : ∃ tg' : Nat → Nat, (∀ b, b < A.heap.size → tg' b = tg b) ∧ (∀ b, w'.heap.size ≤ b → tg' b = 0) ∧ (∀ g, v'.ownBlock = some g → tg' g = 5 + 2 * q) := by
    rcases hap.at_ with e | e
    · exact ⟨tg, fun _ _ => rfl, fun b hb => h.fresh b (by omega), fun g hg => h.tred q hq g (e ▸ hg)⟩
    · rw [World.size_alloc] at e
      have hl := OW.lt hown e
      exact ⟨fun b => if b = A.heap.size + 1 then 5 + 2 * q else tg b, fun b hb => if_neg (by omega), fun b hb => (if_neg (by omega)).trans (h.fresh b (by omega)), fun g hg => by
        rw [hg] at e
        simp only [Option.some.injEq] at e
        exact if_pos e⟩
  have hk : ∀ g, g < A.heap.size → tg g ≠ 5 + 2 * q → w'.heap[g]? = A.heap[g]? := fun g hg hne => by
    rw [hap.grown.block g (by rw [World.size_alloc]; omega) (fun e => hne (h.tred q hq g e.symm))]
    exact Below.heap_alloc _ _ _ hg
  obtain ⟨C, hC⟩ : ∃ C, w'.setCell ⟨bR, q, none⟩ v' = C := ⟨_, rfl⟩
  have hszC : C.heap.size = w'.heap.size := by rw [← hC]; simp
  have hcb : ∀ g, g ≠ bR → C.heap[g]? = w'.heap[g]? := fun g hg => by rw [← hC]; exact Below.heap_setCell _ _ _ g hg
  have hkC : ∀ g, g < A.heap.size → tg g ≠ 2 → tg g ≠ 5 + 2 * q → C.heap[g]? = A.heap[g]? := fun g hg h1 h2 => (hcb g (fun e => h1 (by rw [e]; exact h.tR))).trans (hk g hg h2)
  have hred : Blk C bR ((List.range R).map (updF RV q v')) 31 := by
    rw [← hC, ← map_upd]
    exact (h.red.block (hk _ hBl (by rw [h.tR]; omega))).set q v'
  have hkw : Kw (fun g => g < S0 ∨ tg g = 0) A C := by
    rw [← hC]
    refine (((Kw.refl _ A).alloc _).grown hap.grown (fun g hg hr => ?_)).setCell _ _ (fun hr => ?_)
    · rcases hr with h1 | h1
      · have := OW.lt (h.rrow q hq) hg; omega
      · rw [h.tred q hq g hg] at h1; omega
    · rcases hr with h1 | h1
      · have := h.lR; dsimp only at h1; omega
      · dsimp only at h1; rw [h.tR] at h1; omega
  rw [hC]
  refine ⟨tg', ⟨h.out.block (hkC _ h.out.lt (by rw [h.tO]; omega) (by rw [h.tO]; omega)), h.back.block (hkC _ h.back.lt (by rw [h.tB]; omega) (by rw [h.tB]; omega)), hred, fun x hx => (h.row x hx).block (hkC _ (h.row x hx).lt (by rw [h.trow x hx]; omega) (by rw [h.trow x hx]; omega)),
    fun y hy => (h.brow y hy).step (fun g hg => hkC g ((h.brow y hy).own_lt hg).2 (by rw [h.tback y hy g hg]; omega) (by rw [h.tback y hy g hg]; omega)) (fun g _ h8 h9 => ⟨by rw [htg g h8]; exact h9, hkC g h8 (by rw [h9]; omega) (by rw [h9]; omega)⟩), fun z hz => ?_,
    (htg _ h.out.lt).trans h.tO, (htg _ h.back.lt).trans h.tB, (htg _ hBl).trans h.tR, fun x hx => (htg _ (h.row x hx).lt).trans (h.trow x hx),
    fun y hy g hg => (htg g ((h.brow y hy).own_lt hg).2).trans (h.tback y hy g hg), fun z hz g hg => ?_, h.lO, h.lB, h.lR, h.lrow, h.inj, fun b hb => hfr b (by omega)⟩, htg, hkw⟩
  · unfold updF
    by_cases e : z = q
    · rw [if_pos e, if_pos e]
      exact OW.block hown fun g hg => hcb g fun e2 => by
        have h6 := hv' g hg
        rw [e2, htg _ hBl, h.tR] at h6
        omega
    · rw [if_neg e, if_neg e]
      exact OW.block (h.rrow z hz) fun g hg => hkC g (OW.lt (h.rrow z hz) hg).2 (by rw [h.tred z hz g hg]; omega) (by rw [h.tred z hz g hg]; omega)
  · unfold updF at hg
    by_cases e : z = q
    · rw [if_pos e] at hg
      rw [e]; exact hv' g hg
    · rw [if_neg e] at hg
      rw [htg g (OW.lt (h.rrow z hz) hg).2]
      exact h.tred z hz g hg
end
end Go.Proofs.YtnniohimbmnapaaDoor
