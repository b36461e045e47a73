/- What the document's CopyFunc answers: a function as new memory. -/
import Derived.Test.YtnniohimbmnapaaDoorCr
import Derived.Test.YtnniohimbmnapaaDoorFHand
namespace Go.Proofs.YtnniohimbmnapaaDoor
open Go Go.ChangeShapes Go.WideShapes Go.RowKit
set_option linter.unusedVariables false
set_option linter.unusedSimpArgs false
theorem infoStr : (Tryd.prog.info? 9).map (fun i => (i.zero, i.size, i.bytes)) = some (some (.string ⟨#[]⟩), 1, 16) := by kernel_rfl
theorem infoCon : (Tryd.prog.info? 84).map (fun i => (i.zero, i.size, i.bytes)) = some (some (.agg #[.int .i64 0, .string ⟨#[]⟩]), 2, 24) := by kernel_rfl
theorem infoRgn : (Tryd.prog.info? 64).map (fun i => (i.zero, i.size, i.bytes)) = some (some (.agg #[.int .i64 0, .int .i64 0, .int .i64 0, .int .i64 0]), 4, 32) := by kernel_rfl
theorem infoIn : (Tryd.prog.info? 50).map (fun i => (i.zero, i.size, i.bytes)) = some (some (.agg #[.int .i64 0, .int .i64 0, .int .i64 0, .int .i64 0, .int .i64 0, .int .i64 0, .slice none 0 0]), 7, 72) := by kernel_rfl
/-- Block b holds just these cells, and they may be written. -/
def Bx (w : World) (b : Nat) (cs : List Value) (T : TypeId) : Prop := w.heap[b]? = some (.cells cs.toArray T (0, 0))
section
variable {w w' : World} {b : Nat} {cs : List Value} {T : TypeId}
theorem Bx.cell (h : Bx w b cs T) {i : Nat} {v : Value} (hv : cs[i]? = some v) : w.cell? ⟨b, i, none⟩ = some v := by
  rw [cell_of_row w b i cs.toArray T (0, 0) h]; simpa using hv
theorem Bx.frozen (h : Bx w b cs T) (i : Nat) : w.frozen? ⟨b, i, none⟩ = false := by
  unfold Bx at h
  simp [World.frozen?, h]
theorem Bx.lt (h : Bx w b cs T) : b < w.heap.size := (Array.getElem?_eq_some_iff.1 h).1
theorem Bx.set (h : Bx w b cs T) (i : Nat) (v : Value) : Bx (w.setCell ⟨b, i, none⟩ v) b (cs.set i v) T := by
  unfold Bx at *
  simp [World.setCell, Array.getElem?_modify, h]
theorem Bx.block (h : Bx w b cs T) (e : w'.heap[b]? = w.heap[b]?) : Bx w' b cs T := e.trans h
theorem Bx.new (w : World) (cs : List Value) (T : TypeId) : Bx (w.alloc (.cells cs.toArray T)) w.heap.size cs T := heap_alloc_new w _
theorem Bx.al (h : Bx w b cs T) (o : Obj) : Bx (w.alloc o) b cs T := h.block (Below.heap_alloc _ _ _ h.lt)
theorem Bx.keep (h : Bx w b cs T) (hb : Below w.heap.size w w') : Bx w' b cs T := h.block (hb.block b h.lt)
theorem Bx.grown (h : Bx w b cs T) {row : Option Nat} (hg : w.grownBy w' row) (hr : row ≠ some b) : Bx w' b cs T := h.block (hg.block b h.lt fun e => hr e.symm)
end
theorem ownS_form {w : World} {B sz n : Nat} {T : TypeId} {v : Value} {xs : List Value} (h : w.ownsRow B T sz v n xs) : ∃ p c, v = .slice p n c ∧ (p = none → c = 0) := by
  rcases h.2 with ⟨rfl, rfl⟩ | ⟨g, c, cur, rfl, _⟩
  · exact ⟨none, 0, rfl, fun _ => rfl⟩
  · exact ⟨_, c, rfl, fun e => by cases e⟩
theorem ownS_fresh {w : World} {T : TypeId} {sz B b : Nat} (hB : B ≤ w.heap.size) (hb : b = w.heap.size) : (w.alloc (.cells #[] T)).ownsRow B T sz (.slice (some ⟨b, 0, none⟩) 0 0) 0 [] := by
  subst hb
  exact ⟨by simp, .inr ⟨w.heap.size, 0, #[], rfl, hB, heap_alloc_new w _, Nat.le_refl _, by unfold maxLen; omega, by simp, by simp⟩⟩
theorem ownS_keep {w w' : World} {B sz n : Nat} {T : TypeId} {v : Value} {xs : List Value} (h : w.ownsRow B T sz v n xs) (hb : Below w.heap.size w w') : w'.ownsRow B T sz v n xs := by
  refine ⟨h.1, ?_⟩
  rcases h.2 with h2 | ⟨g, c, cur, rfl, h0, hg, r⟩
  · exact .inl h2
  · exact .inr ⟨g, c, cur, rfl, h0, (hb.block _ (Array.getElem?_eq_some_iff.1 hg).1).trans hg, r⟩
theorem ownS_low {w : World} {B B' n sz : Nat} {T : TypeId} {v : Value} {xs : List Value} (h : w.ownsRow B T sz v n xs) (hB : B' ≤ B) : w.ownsRow B' T sz v n xs := by
  refine ⟨h.1, ?_⟩
  rcases h.2 with h2 | ⟨g2, cap, cur2, h3, h4, r1, r2⟩
  · exact .inl h2
  · exact .inr ⟨g2, cap, cur2, h3, by omega, r1, r2⟩
/-- A store below a row leaves it. -/
theorem ownS_set {w : World} {B n sz : Nat} {T : TypeId} {v : Value} {xs : List Value} (h : w.ownsRow B T sz v n xs) {a : Addr} (ha : a.block < B) (u : Value) : (w.setCell a u).ownsRow B T sz v n xs := by
  refine ⟨h.1, ?_⟩
  rcases h.2 with h2 | ⟨g, c, cur, rfl, h0, hg, r⟩
  · exact .inl h2
  · exact .inr ⟨g, c, cur, rfl, h0, (Below.heap_setCell _ _ _ _ (by omega)).trans hg, r⟩
theorem ownS_ne {w : World} {B B' sz sz' n n' : Nat} {T T' : TypeId} {v v' : Value} {xs xs' : List Value} (h : w.ownsRow B T sz v n xs) (h' : w.ownsRow B' T' sz' v' n' xs') (hne : T ≠ T') : v.ownBlock = none ∨ v.ownBlock ≠ v'.ownBlock := by
  rcases h.2 with ⟨rfl, _⟩ | ⟨g, c, cur, rfl, _, hg, _⟩
  · exact .inl rfl
  · right
    rcases h'.2 with ⟨rfl, _⟩ | ⟨g', c', cur', rfl, _, hg', _⟩
    · simp [Value.ownBlock]
    · intro e
      simp only [Value.ownBlock, Option.some.injEq] at e
      subst e
      rw [hg] at hg'
      simp at hg'
      exact hne hg'.2
/-- A row of another type stays where a row grows. -/
theorem ownS_grown {w w' : World} {B B' sz sz' n n' : Nat} {T T' : TypeId} {v v' : Value} {xs xs' : List Value} (h : w.ownsRow B T sz v n xs) (h' : w.ownsRow B' T' sz' v' n' xs') (hne : T ≠ T') (hg : w.grownBy w' v'.ownBlock) : w'.ownsRow B T sz v n xs :=
  World.ownsRow.kept h hg (ownS_ne h h' hne)
/-- Instructions, cell by cell. -/
def flatI : List (InsD × Value) → List Value
  | [] => []
  | q :: r => .int .i64 q.1.op :: .int .i64 q.1.d :: .int .i64 q.1.a :: .int .i64 q.1.b :: .int .i64 q.1.t :: .int .i64 q.1.k :: q.2 :: flatI r
theorem flatI_len : ∀ (us : List (InsD × Value)), (flatI us).length = us.length * 7
  | [] => rfl
  | q :: r => by simp [flatI, flatI_len r]; omega
theorem flatI_append : ∀ (a b : List (InsD × Value)), flatI (a ++ b) = flatI a ++ flatI b
  | [], b => rfl
  | q :: r, b => by simp [flatI, flatI_append r b]
def iZ : InsD × Value := (insZ, .bool false)
theorem flatI_at : ∀ (us : List (InsD × Value)) (i : Nat), i < us.length → (flatI us)[i * 7]? = some (.int .i64 (us.getD i iZ).1.op) ∧ (flatI us)[i * 7 + 1]? = some (.int .i64 (us.getD i iZ).1.d) ∧ (flatI us)[i * 7 + 2]? = some (.int .i64 (us.getD i iZ).1.a) ∧
    (flatI us)[i * 7 + 3]? = some (.int .i64 (us.getD i iZ).1.b) ∧ (flatI us)[i * 7 + 4]? = some (.int .i64 (us.getD i iZ).1.t) ∧ (flatI us)[i * 7 + 5]? = some (.int .i64 (us.getD i iZ).1.k) ∧ (flatI us)[i * 7 + 6]? = some (us.getD i iZ).2
  | q :: r, 0, _ => by simp [flatI]
  | q :: r, i + 1, h => by
    have ih := flatI_at r i (by simpa using h)
    rw [show (i + 1) * 7 = i * 7 + 7 by omega, show i * 7 + 7 + 1 = i * 7 + 1 + 7 by omega, show i * 7 + 7 + 2 = i * 7 + 2 + 7 by omega, show i * 7 + 7 + 3 = i * 7 + 3 + 7 by omega, show i * 7 + 7 + 4 = i * 7 + 4 + 7 by omega, show i * 7 + 7 + 5 = i * 7 + 5 + 7 by omega, show i * 7 + 7 + 6 = i * 7 + 6 + 7 by omega]
    simpa [flatI] using ih
/-- The slice value v owns these instructions, their lists are owned too. -/
def IO (w : World) (B : Nat) (v : Value) (is : List InsD) : Prop :=
  ∃ us : List (InsD × Value), us.length = is.length ∧ w.ownsRow B 50 7 v is.length (flatI us) ∧ ∀ i, i < is.length → (us.getD i iZ).1 = is.getD i insZ ∧ OI w B (us.getD i iZ).2 (is.getD i insZ).l
theorem IO.nil (w : World) (B : Nat) : IO w B (.slice none 0 0) [] := ⟨[], rfl, World.ownsRow_nil w B _ 7, fun i h => by simp at h⟩
theorem IO.keep {w w' : World} {B : Nat} {v : Value} {is : List InsD} (h : IO w B v is) (hb : Below w.heap.size w w') : IO w' B v is := by
  obtain ⟨us, h1, h2, h3⟩ := h
  exact ⟨us, h1, ownS_keep h2 hb, fun i hi => ⟨(h3 i hi).1, (h3 i hi).2.keep hb⟩⟩
theorem IO.low {w : World} {B B' : Nat} {v : Value} {is : List InsD} (h : IO w B v is) (hB : B' ≤ B) : IO w B' v is := by
  obtain ⟨us, h1, h2, h3⟩ := h
  exact ⟨us, h1, ownS_low h2 hB, fun i hi => ⟨(h3 i hi).1, (h3 i hi).2.low hB⟩⟩
theorem IO.set {w : World} {B : Nat} {v : Value} {is : List InsD} (h : IO w B v is) {a : Addr} (ha : a.block < B) (u : Value) : IO (w.setCell a u) B v is := by
  obtain ⟨us, h1, h2, h3⟩ := h
  exact ⟨us, h1, ownS_set h2 ha u, fun i hi => ⟨(h3 i hi).1, ownS_set (h3 i hi).2 ha u⟩⟩
theorem getD_snoc' {α : Type} (l : List α) (x d : α) (i : Nat) : (l ++ [x]).getD i d = if i = l.length then x else l.getD i d := by
  rw [List.getD_eq_getElem?_getD, List.getD_eq_getElem?_getD]
  by_cases h : i < l.length
  · rw [List.getElem?_append_left h, if_neg (by omega)]
  · by_cases e : i = l.length
    · subst e; simp
    · rw [List.getElem?_eq_none (by simp; omega), List.getElem?_eq_none (by omega), if_neg e]
/-- An instruction more. -/
theorem IO.snoc {w w' : World} {B : Nat} {v v' u : Value} {is : List InsD} {us : List (InsD × Value)} {x : InsD} (h1 : us.length = is.length) (h2 : w.ownsRow B 50 7 v is.length (flatI us))
    (h3 : ∀ i, i < is.length → (us.getD i iZ).1 = is.getD i insZ ∧ OI w B (us.getD i iZ).2 (is.getD i insZ).l) (hu : OI w B u x.l) (ha : ApdS 7 w w' B 50 v v' (is.length + 1) (flatI us ++ flatI [(x, u)])) : IO w' B v' (is ++ [x]) := by
  have hk : ∀ {y : Value} {xs : List Int}, OI w B y xs → OI w' B y xs := fun h => ownS_grown h h2 (by decide) ha.grown
  refine ⟨us ++ [(x, u)], by simp [h1], ?_, fun i hi => ?_⟩
  · rw [List.length_append, List.length_singleton, flatI_append]; exact ha.own
  · rw [getD_snoc', getD_snoc', h1]
    by_cases e : i = is.length
    · rw [if_pos e, if_pos e]; exact ⟨rfl, hk hu⟩
    · rw [if_neg e, if_neg e]
      have := h3 i (by simp at hi; omega)
      exact ⟨this.1, hk this.2⟩
theorem IO.ii {w : World} {B : Nat} {v : Value} {is : List InsD} (h : IO w B v is) (hl : is.length ≤ 2199023255552) (hll : ∀ i, i < is.length → (is.getD i insZ).l.length ≤ 17592186043904) : Ii w v is := by
  obtain ⟨us, h1, h2, h3⟩ := h
  rcases h2.2 with ⟨rfl, h4⟩ | ⟨g, c, cur, rfl, h0, hg, r1, r2, r3, r4⟩
  · exact .inl ⟨none, rfl, List.length_eq_zero_iff.1 h4⟩
  · refine .inr ⟨g, 0, c, rfl, r1, hl, fun i hi => ⟨(us.getD i iZ).2, ?_⟩⟩
    obtain ⟨f0, f1, f2, f3, f4, f5, f6⟩ := flatI_at us i (by omega)
    rw [(h3 i hi).1] at f0 f1 f2 f3 f4 f5
    have hc : ∀ j u, (flatI us)[j]? = some u → w.cell? ⟨g, j, none⟩ = some u := fun j u hj => by
      have := h2.cells (g := g) rfl j u hj
      rwa [show (⟨g, 0, none⟩ : Addr).add j = ⟨g, j, none⟩ by unfold Addr.add; split <;> simp_all] at this
    rw [Nat.zero_add]
    exact ⟨hc _ _ f0, hc _ _ f1, hc _ _ f2, hc _ _ f3, hc _ _ f4, hc _ _ f5, hc _ _ f6, (OW.mine (h3 i hi).2).ri (Nat.le_trans (hll i hi) (by omega)), hll i hi⟩
/-- What CopyFunc answers. -/
def CfPost (w : World) (r : RestV) (F : FuncD) (nx cx : List Value) (e : Ending) (w' : World) : Prop :=
  ∃ (r' : RestV) (iv rv : Value), e = .returned (funcV r' F iv rv) ∧ r'.name = r.name ∧ r'.frees = r.frees ∧ r'.gen = r.gen ∧ r'.bound = r.bound ∧ r'.nn = r.nn ∧ r'.cn = r.cn ∧ Nm w' r' nx ∧ Cn w' r' cx ∧ Rg w' rv F.regions ∧ IO w' w.heap.size iv F.ins ∧ Below w.heap.size w w'
theorem Nm.src {w : World} {r : RestV} {xs : List Value} (h : Nm w r xs) : SrcS 1 w (.slice r.np r.nn r.nc) r.nn xs := h.1.srcS fun e => by
  have hc := h.2.2.2 e
  obtain ⟨_, ⟨p, he, h0⟩ | ⟨b, off, c, he, h1, h2⟩⟩ := h.1
  · exact ⟨h0, hc⟩
  · rw [e] at he; simp at he
theorem Cn.src {w : World} {r : RestV} {xs : List Value} (h : Cn w r xs) : SrcS 2 w (.slice r.cp r.cn r.cc) r.cn xs := h.1.srcS fun e => by
  have hc := h.2.2.2 e
  obtain ⟨_, ⟨p, he, h0⟩ | ⟨b, off, c, he, h1, h2⟩⟩ := h.1
  · exact ⟨h0, hc⟩
  · rw [e] at he; simp at he
theorem Rg.src {w : World} {p : Option Addr} {c : Nat} {rs : List RegD} (h : Rg w (.slice p rs.length c) rs) : SrcS 4 w (.slice p rs.length c) rs.length (flatR rs) := h.cr.srcS fun e => by
  subst e
  rcases h with ⟨p, he, rfl⟩ | ⟨b, off, c, he, _⟩
  · simp only [Value.slice.injEq] at he; exact ⟨rfl, he.2.2⟩
  · simp at he
theorem Nm.ones {w : World} {r : RestV} {xs : List Value} (h : Nm w r xs) : ∀ u ∈ xs, u.oneCell' = true := fun u hu => by
  obtain ⟨i, hi, rfl⟩ := List.mem_iff_getElem.1 hu
  have hl := h.1.1
  obtain ⟨s, hs⟩ := h.2.1 i (by omega)
  rw [List.getElem?_eq_getElem hi] at hs
  simp only [Option.some.injEq] at hs
  rw [hs]; rfl
theorem Cn.ones {w : World} {r : RestV} {xs : List Value} (h : Cn w r xs) : ∀ u ∈ xs, u.oneCell' = true := fun u hu => by
  obtain ⟨i, hi, rfl⟩ := List.mem_iff_getElem.1 hu
  have hl := h.1.1
  obtain ⟨⟨a, ha⟩, s, hs⟩ := h.2.1 (i / 2) (by omega)
  rcases Nat.mod_two_eq_zero_or_one i with e | e
  · rw [show i / 2 * 2 = i by omega, List.getElem?_eq_getElem hi] at ha
    simp only [Option.some.injEq] at ha
    rw [ha]; rfl
  · rw [show i / 2 * 2 + 1 = i by omega, List.getElem?_eq_getElem hi] at hs
    simp only [Option.some.injEq] at hs
    rw [hs]; rfl
theorem flatR_ones : ∀ (rs : List RegD), ∀ u ∈ flatR rs, u.oneCell' = true
  | [], u, hu => by simp [flatR] at hu
  | q :: r, u, hu => by
    simp only [flatR, List.mem_cons] at hu
    rcases hu with rfl | rfl | rfl | rfl | hu
    · rfl
    · rfl
    · rfl
    · rfl
    · exact flatR_ones r u hu
theorem insV_ones (x : InsD) (p : Option Addr) (n c : Nat) : ∀ u ∈ flatI [(x, .slice p n c)], u.oneCell' = true := fun u hu => by
  simp only [flatI, List.mem_cons, List.not_mem_nil, or_false] at hu
  rcases hu with rfl | rfl | rfl | rfl | rfl | rfl | rfl <;> rfl
def fCells (r : RestV) (F : FuncD) (iv rv : Value) : List Value := [.string r.name, .int .i64 F.params, .int .i64 F.regs, .int .i64 r.frees, .bool r.gen, .int .i64 r.bound, .slice r.np r.nn r.nc, .slice r.cp r.cn r.cc, iv, rv]
end Go.Proofs.YtnniohimbmnapaaDoor
