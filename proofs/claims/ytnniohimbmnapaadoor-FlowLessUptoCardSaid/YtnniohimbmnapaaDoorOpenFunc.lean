/- Opening an argument that is a function (a struct of ten fields, among them a slice of instructions and a slice of regions): what the walk is told of it. -/
import Derived.Test.YtnniohimbmnapaaDoorRows
import Derived.Test.YtnniohimbmnapaaDoorFMem
import Derived.ProofKit
import Derived.OpenShut
import Derived.SizedLaws
import Derived.Lib.SmallJoins
import Derived.Carry
import Derived.Deep.Slices
import Derived.Deep.Fields
import Derived.ChangeArms
namespace Go.Proofs.YtnniohimbmnapaaDoor
open Go.ChangeShapes Go.WideShapes Go.ChangeAt Go.RowKit Go.Joins
set_option linter.unusedVariables false
set_option linter.unusedSimpArgs false
theorem bytesInt : Tryd.prog.bytesOf 3 = 8 := by kernel_rfl
theorem bytesIns : Tryd.prog.bytesOf 50 = 72 := by kernel_rfl
theorem bytesReg : Tryd.prog.bytesOf 64 = 32 := by kernel_rfl
theorem own : ownKnob Tryd.prog.godebug = none := by kernel_rfl
theorem laidOut : laidOutB Tryd.prog = true := by kernel_rfl
theorem weightsAll_mem {H : Type} {P : Program} {e : TypeId} {d : DataW H} {y : Nat} : ∀ {l : List (DataW H)}, d ∈ l → y ∈ d.weights P e → y ∈ DataW.weightsAll P e l
  | a :: r, hm, hy => by
    unfold DataW.weightsAll
    rcases List.mem_cons.1 hm with rfl | hm
    · exact List.mem_append.2 (.inl hy)
    · exact List.mem_append.2 (.inr (weightsAll_mem hm hy))
theorem bulk_one {H : Type} (d : DataW H) : 1 ≤ Rows.uptoBulk d := by
  cases d with
  | lit l => cases l <;> simp [Rows.uptoBulk]
  | nil => simp [Rows.uptoBulk]
  | ptr d => simp [Rows.uptoBulk]
  | slice elems spare => simp [Rows.uptoBulk]
  | agg parts => simp [Rows.uptoBulk]
  | iface t d => simp [Rows.uptoBulk]
  | map entries => simp [Rows.uptoBulk]
  | held h => simp [Rows.uptoBulk]
theorem bulk_mem {H : Type} {d : DataW H} : ∀ {l : List (DataW H)}, d ∈ l → Rows.uptoBulk d ≤ Rows.uptoBulkAll l
  | x :: r, h => by
    simp only [Rows.uptoBulkAll]
    rcases List.mem_cons.1 h with rfl | h
    · omega
    · have := bulk_mem h; omega
theorem bulk_len {H : Type} : ∀ (l : List (DataW H)), l.length ≤ Rows.uptoBulkAll l
  | [] => by simp
  | x :: r => by
    have h1 := bulk_one x
    have h2 := bulk_len r
    simp only [Rows.uptoBulkAll, List.length_cons]; omega
/-- A slice of ints. -/
theorem open_riz {H : Type} {enc : TypeId × Value → H} {W : World} {fuel : Nat} {v : Value} {x : DataW H × List MemPlace} (h : DataW.trod enc Tryd.prog W 0 (fun _ => true) true fuel 31 [v] = some x)
    (hz : ∀ y ∈ DataW.weights Tryd.prog 31 x.1, y ≤ reachBytes) : ∃ ws, Ri W v ws ∧ ws.length ≤ 17592186043904 := by
  rcases open_ints Tryd.underlying31 Tryd.underlying3 (by kernel_rfl) h with ⟨hcs, hx⟩ | ⟨a, len, cap, zs, hcs, _, hl, hm, hzs, hx, hcell, hwz⟩
  · simp at hcs
    exact ⟨[], .inl ⟨none, hcs, rfl⟩, by simp⟩
  · simp at hcs
    subst hcs
    simp only [if_true] at hzs
    have hw : cap * 8 ≤ reachBytes := by
      have := hz ((zs.take len).length * 8 + (zs.drop len).length * 8) (by
        rw [hx]; simp [DataW.weights, Tryd.underlying31, bytesInt, lits, Nat.add_mul])
      rw [← Nat.add_mul, ← List.length_append, List.take_append_drop, hzs] at this
      exact this
    have hcap : cap ≤ 17592186043904 := by unfold reachBytes at hw; omega
    by_cases hc0 : cap = 0
    · subst hc0
      obtain rfl : len = 0 := by omega
      exact ⟨[], .inl ⟨some a, rfl, rfl⟩, by simp⟩
    · obtain ⟨b, off, s⟩ := a
      have h0 := hcell 0 (by omega)
      have hs : s = none := by simpa [Addr.add] using World.cell?_spot h0
      subst hs
      have hll : (zs.take len).length = len := by rw [List.length_take, hzs]; omega
      refine ⟨zs.take len, .inr ⟨b, off, cap, by rw [hll], by omega, by omega, fun i hi => ?_⟩, by omega⟩
      rw [hll] at hi
      rw [show (zs.take len).getD i 0 = zs.getD i 0 by rw [List.getD_eq_getElem?_getD, List.getD_eq_getElem?_getD, List.getElem?_take, if_pos (by omega)]]
      have := hcell i (by omega)
      unfold Addr.add at this
      split at this
      · rename_i e; subst e; simpa using this
      · simpa using this
/-- The fields of a struct, one cell each. -/
theorem agg_fields {H : Type} {enc : TypeId × Value → H} {W : World} {n : Nat} {e : TypeId} {fs : Array Field} {k : Nat} {cs : List Value} {x : DataW H × List MemPlace} (he : Tryd.prog.underlying e = some (.struct fs)) (hone : Go.Deep.oneCellFields Tryd.prog fs = true)
    (hk : fs.size = k) (hl : cs.length = k) (h : DataW.trod enc Tryd.prog W 0 (fun _ => true) true n e cs = some x) :
    ∃ (ys : List (DataW H × List MemPlace)) (n' : Nat), x.1 = .agg (ys.map (·.1)) ∧ ys.length = k ∧ ∀ (j : Nat) (f : Field), fs[j]? = some f → ∃ (v : Value) (y : DataW H × List MemPlace), cs[j]? = some v ∧ ys[j]? = some y ∧ DataW.trod enc Tryd.prog W 0 (fun _ => true) true n' f.type [v] = some y := by
  obtain ⟨ys, n', rfl, rfl, hlen, hyl, hf⟩ := DataW.trod_struct he h
  refine ⟨ys, n', rfl, hyl.trans hk, fun j f hj => ?_⟩
  obtain ⟨ho, hz⟩ := Go.Deep.hone_of hone j f hj
  have hjl : j < fs.size := (Array.getElem?_eq_some_iff.1 hj).1
  have h1 := hf j f hj
  have hjc : j < cs.length := by omega
  have hys : ys[j]? = some (ys[j]'(by omega)) := List.getElem?_eq_getElem (by omega)
  rw [ho, hz, show (cs.drop j).take 1 = [cs[j]] by rw [List.drop_eq_getElem_cons hjc]; rfl, hys] at h1
  exact ⟨cs[j], _, List.getElem?_eq_getElem hjc, hys, h1⟩
theorem elem_fields {H : Type} {enc : TypeId × Value → H} {W : World} {n : Nat} {e : TypeId} {fs : Array Field} {b o k : Nat} {cs : List Value} {x : DataW H × List MemPlace} (he : Tryd.prog.underlying e = some (.struct fs)) (hone : Go.Deep.oneCellFields Tryd.prog fs = true)
    (hk : fs.size = k) (hc : ∀ j, j < k → W.cell? ⟨b, o + j, none⟩ = cs[j]?) (hl : cs.length = k) (h : DataW.trod enc Tryd.prog W 0 (fun _ => true) true n e cs = some x) :
    ∃ (ys : List (DataW H × List MemPlace)) (n' : Nat), x.1 = .agg (ys.map (·.1)) ∧ ys.length = k ∧ ∀ (j : Nat) (f : Field), fs[j]? = some f → ∃ (v : Value) (y : DataW H × List MemPlace), W.cell? ⟨b, o + j, none⟩ = some v ∧ ys[j]? = some y ∧ DataW.trod enc Tryd.prog W 0 (fun _ => true) true n' f.type [v] = some y := by
  obtain ⟨ys, n', h1, h2, h3⟩ := agg_fields he hone hk hl h
  refine ⟨ys, n', h1, h2, fun j f hj => ?_⟩
  obtain ⟨v, y, e1, e2, e3⟩ := h3 j f hj
  exact ⟨v, y, (hc j (by have := (Array.getElem?_eq_some_iff.1 hj).1; omega)).trans e1, e2, e3⟩
theorem cells_at {W : World} {b off i k : Nat} {cs : List Value} (h : W.cells? 0 ((⟨b, off, none⟩ : Addr).add (i * k)) k = some cs) : cs.length = k ∧ ∀ j, j < k → W.cell? ⟨b, off + i * k + j, none⟩ = cs[j]? := by
  obtain ⟨_, h1, h2⟩ := World.cells?_some h
  refine ⟨h1, fun j hj => ?_⟩
  have := h2 j hj
  rw [Go.Deep.add_add] at this
  unfold Addr.add at this
  split at this
  · rename_i e; rw [← this, show off + i * k + j = off by omega]
  · rw [← this, show off + (i * k + j) = off + i * k + j by omega]
theorem cells_spot {W : World} {b off k : Nat} {s : Option Nat} {cs : List Value} (hk : 0 < k) (h : W.cells? 0 ((⟨b, off, s⟩ : Addr).add (0 * k)) k = some cs) : s = none := by
  obtain ⟨_, h1, h2⟩ := World.cells?_some h
  have := h2 0 hk
  rw [List.getElem?_eq_getElem (by omega)] at this
  simpa [Addr.add] using World.cell?_spot this
theorem size_slice_elems {H : Type} (D : Nat → DataW H) (len : Nat) (r : List (DataW H)) : len ≤ Rows.uptoBulk (.slice ((List.range len).map D) r) := by
  have := bulk_len ((List.range len).map D)
  simp only [List.length_map, List.length_range] at this
  simp only [Rows.uptoBulk]
  omega
set_option maxRecDepth 100000 in
set_option maxHeartbeats 1000000 in
/-- A slice of instructions. -/
theorem open_insz {H : Type} {enc : TypeId × Value → H} {W : World} {fuel : Nat} {v : Value} {x : DataW H × List MemPlace} (h : DataW.trod enc Tryd.prog W 0 (fun _ => true) true fuel 24 [v] = some x)
    (hz : ∀ y ∈ DataW.weights Tryd.prog 24 x.1, y ≤ reachBytes) : ∃ is, Ii W v is ∧ is.length ≤ Rows.uptoBulk x.1 := by
  rcases Go.Deep.open_slice Tryd.underlying24 h with ⟨hcs, hx⟩ | ⟨a, len, cap, m, n, D, Pl, hcs, _, hl, hm, hme, hx, hel⟩
  · simp at hcs
    exact ⟨[], .inl ⟨none, hcs, rfl⟩, by simp⟩
  · simp at hcs
    subst hcs
    obtain rfl : m = cap := by simpa using hme
    subst hx
    have hwe : (DataW.slice ((List.range len).map D) ((List.range (m - len)).map fun j => D (len + j))).weights Tryd.prog 24 = ((List.range len).map D ++ (List.range (m - len)).map fun j => D (len + j)).length * 72 :: (DataW.weightsAll Tryd.prog 50 ((List.range len).map D) ++ DataW.weightsAll Tryd.prog 50 ((List.range (m - len)).map fun j => D (len + j))) := by
      simp [DataW.weights, Tryd.underlying24, bytesIns]
    rw [hwe] at hz
    have hw : m * 72 ≤ reachBytes := by
      have := hz _ (List.mem_cons_self ..)
      simp only [List.length_append, List.length_map, List.length_range] at this
      rwa [show len + (m - len) = m by omega] at this
    have hcap : m ≤ 2199023255552 := by unfold reachBytes at hw; omega
    have hlb := size_slice_elems D len ((List.range (m - len)).map fun j => D (len + j))
    by_cases hc0 : m = 0
    · subst hc0
      obtain rfl : len = 0 := by omega
      exact ⟨[], .inl ⟨some a, rfl, rfl⟩, by simp⟩
    · obtain ⟨b, off, s⟩ := a
      have hC : Tryd.prog.cellsOf 50 = 7 := by kernel_rfl
      rw [hC] at hel
      obtain ⟨cs0, hc0', _⟩ := hel 0 (by omega)
      obtain rfl := cells_spot (k := 7) (by decide) hc0'
      have hrow : ∀ i, i < len → ∃ q : InsD × Value, At7 W b (off + i * 7) q.1 q.2 := fun i hi => by
        obtain ⟨cs, hc, ht⟩ := hel i (by omega)
        obtain ⟨hcl, hcc⟩ := cells_at hc
        obtain ⟨ys, n', hye, hyl, hf⟩ := elem_fields Tryd.underlying50 (by kernel_rfl) (by kernel_rfl) hcc hcl ht
        obtain ⟨v0, y0, c0, e0, t0⟩ := hf 0 _ rfl
        obtain ⟨v1, y1, c1, e1, t1⟩ := hf 1 _ rfl
        obtain ⟨v2, y2, c2, e2, t2⟩ := hf 2 _ rfl
        obtain ⟨v3, y3, c3, e3, t3⟩ := hf 3 _ rfl
        obtain ⟨v4, y4, c4, e4, t4⟩ := hf 4 _ rfl
        obtain ⟨v5, y5, c5, e5, t5⟩ := hf 5 _ rfl
        obtain ⟨v6, y6, c6, e6, t6⟩ := hf 6 _ rfl
        obtain ⟨a0, f0, _⟩ := DataW.trod_int Tryd.underlying3 t0
        obtain ⟨a1, f1, _⟩ := DataW.trod_int Tryd.underlying3 t1
        obtain ⟨a2, f2, _⟩ := DataW.trod_int Tryd.underlying3 t2
        obtain ⟨a3, f3, _⟩ := DataW.trod_int Tryd.underlying3 t3
        obtain ⟨a4, f4, _⟩ := DataW.trod_int Tryd.underlying3 t4
        obtain ⟨a5, f5, _⟩ := DataW.trod_int Tryd.underlying3 t5
        simp at f0 f1 f2 f3 f4 f5
        subst f0 f1 f2 f3 f4 f5
        obtain ⟨ws, hr, hwl⟩ := open_riz t6 (fun y hy => hz y (List.mem_cons_of_mem _ (List.mem_append.2 (.inl (weightsAll_mem (List.mem_map.2 ⟨i, List.mem_range.2 hi, rfl⟩) (by
          have hyy : ys = [y0, y1, y2, y3, y4, y5, y6] := by
            refine List.ext_getElem? fun j => ?_
            match j with
            | 0 => exact e0
            | 1 => exact e1
            | 2 => exact e2
            | 3 => exact e3
            | 4 => exact e4
            | 5 => exact e5
            | 6 => exact e6
            | j + 7 => rw [List.getElem?_eq_none (by omega)]; simp
          have hye' : D i = .agg (ys.map (·.1)) := hye
          rw [hye', hyy]
          simp [DataW.weights, DataW.weightsEach, Tryd.underlying50]
          simp [hy]))))))
        exact ⟨(⟨a0, a1, a2, a3, a4, a5, ws⟩, v6), c0, c1, c2, c3, c4, c5, c6, hr, hwl⟩
      obtain ⟨R, hR⟩ : ∃ R : Nat → InsD × Value, ∀ i, i < len → At7 W b (off + i * 7) (R i).1 (R i).2 := by
        classical
        exact ⟨fun i => if h : i < len then Classical.choose (hrow i h) else (insZ, .bool false), fun i hi => by simp only [dif_pos hi]; exact Classical.choose_spec (hrow i hi)⟩
      have hget : ∀ i, i < len → ((List.range len).map fun r => (R r).1).getD i insZ = (R i).1 := fun i hi => by
        rw [List.getD_eq_getElem?_getD, List.getElem?_map, List.getElem?_range hi]; rfl
      refine ⟨(List.range len).map fun r => (R r).1, .inr ⟨b, off, m, by simp, by simpa using hl, by simp; omega, fun i hi => ?_⟩, by simpa using hlb⟩
      have hi' : i < len := by simpa using hi
      rw [hget i hi']
      exact ⟨_, hR i hi'⟩
set_option maxRecDepth 100000 in
set_option maxHeartbeats 1000000 in
/-- A slice of regions. -/
theorem open_regz {H : Type} {enc : TypeId × Value → H} {W : World} {fuel : Nat} {v : Value} {x : DataW H × List MemPlace} (h : DataW.trod enc Tryd.prog W 0 (fun _ => true) true fuel 25 [v] = some x)
    (hz : ∀ y ∈ DataW.weights Tryd.prog 25 x.1, y ≤ reachBytes) : ∃ rs, Rg W v rs ∧ rs.length ≤ Rows.uptoBulk x.1 := by
  rcases Go.Deep.open_slice Tryd.underlying25 h with ⟨hcs, hx⟩ | ⟨a, len, cap, m, n, D, Pl, hcs, _, hl, hm, hme, hx, hel⟩
  · simp at hcs
    exact ⟨[], .inl ⟨none, hcs, rfl⟩, by simp⟩
  · simp at hcs
    subst hcs
    obtain rfl : m = cap := by simpa using hme
    subst hx
    have hwe : (DataW.slice ((List.range len).map D) ((List.range (m - len)).map fun j => D (len + j))).weights Tryd.prog 25 = ((List.range len).map D ++ (List.range (m - len)).map fun j => D (len + j)).length * 32 :: (DataW.weightsAll Tryd.prog 64 ((List.range len).map D) ++ DataW.weightsAll Tryd.prog 64 ((List.range (m - len)).map fun j => D (len + j))) := by
      simp [DataW.weights, Tryd.underlying25, bytesReg]
    rw [hwe] at hz
    have hw : m * 32 ≤ reachBytes := by
      have := hz _ (List.mem_cons_self ..)
      simp only [List.length_append, List.length_map, List.length_range] at this
      rwa [show len + (m - len) = m by omega] at this
    have hcap : m ≤ 4398046511104 := by unfold reachBytes at hw; omega
    have hlb := size_slice_elems D len ((List.range (m - len)).map fun j => D (len + j))
    by_cases hc0 : m = 0
    · subst hc0
      obtain rfl : len = 0 := by omega
      exact ⟨[], .inl ⟨some a, rfl, rfl⟩, by simp⟩
    · obtain ⟨b, off, s⟩ := a
      have hC : Tryd.prog.cellsOf 64 = 4 := by kernel_rfl
      rw [hC] at hel
      obtain ⟨cs0, hc0', _⟩ := hel 0 (by omega)
      obtain rfl := cells_spot (k := 4) (by decide) hc0'
      have hrow : ∀ i, i < len → ∃ q : RegD, At4 W b (off + i * 4) q := fun i hi => by
        obtain ⟨cs, hc, ht⟩ := hel i (by omega)
        obtain ⟨hcl, hcc⟩ := cells_at hc
        obtain ⟨ys, n', hye, hyl, hf⟩ := elem_fields Tryd.underlying64 (by kernel_rfl) (by kernel_rfl) hcc hcl ht
        obtain ⟨v0, y0, c0, e0, t0⟩ := hf 0 _ rfl
        obtain ⟨v1, y1, c1, e1, t1⟩ := hf 1 _ rfl
        obtain ⟨v2, y2, c2, e2, t2⟩ := hf 2 _ rfl
        obtain ⟨v3, y3, c3, e3, t3⟩ := hf 3 _ rfl
        obtain ⟨a0, f0, _⟩ := DataW.trod_int Tryd.underlying3 t0
        obtain ⟨a1, f1, _⟩ := DataW.trod_int Tryd.underlying3 t1
        obtain ⟨a2, f2, _⟩ := DataW.trod_int Tryd.underlying3 t2
        obtain ⟨a3, f3, _⟩ := DataW.trod_int Tryd.underlying3 t3
        simp at f0 f1 f2 f3
        subst f0 f1 f2 f3
        exact ⟨⟨a0, a1, a2, a3⟩, c0, c1, c2, c3⟩
      obtain ⟨R, hR⟩ : ∃ R : Nat → RegD, ∀ i, i < len → At4 W b (off + i * 4) (R i) := by
        classical
        exact ⟨fun i => if h : i < len then Classical.choose (hrow i h) else regZ, fun i hi => by simp only [dif_pos hi]; exact Classical.choose_spec (hrow i hi)⟩
      have hget : ∀ i, i < len → ((List.range len).map R).getD i regZ = R i := fun i hi => by
        rw [List.getD_eq_getElem?_getD, List.getElem?_map, List.getElem?_range hi]; rfl
      refine ⟨(List.range len).map R, .inr ⟨b, off, m, by simp, by simpa using hl, by simp; omega, fun i hi => ?_⟩, by simpa using hlb⟩
      have hi' : i < len := by simpa using hi
      rw [hget i hi']
      exact hR i hi'
theorem agg10 {cs : Array Value} (h : cs.size = 10) : ∃ c0 c1 c2 c3 c4 c5 c6 c7 c8 c9, cs = #[c0, c1, c2, c3, c4, c5, c6, c7, c8, c9] := by
  obtain ⟨l⟩ := cs
  match l, h with
  | [c0, c1, c2, c3, c4, c5, c6, c7, c8, c9], _ => exact ⟨_, _, _, _, _, _, _, _, _, _, rfl⟩
theorem list10 {α : Type} {l : List α} (h : l.length = 10) : ∃ c0 c1 c2 c3 c4 c5 c6 c7 c8 c9, l = [c0, c1, c2, c3, c4, c5, c6, c7, c8, c9] := by
  match l, h with
  | [c0, c1, c2, c3, c4, c5, c6, c7, c8, c9], _ => exact ⟨_, _, _, _, _, _, _, _, _, _, rfl⟩
theorem slice_val {H : Type} {enc : TypeId × Value → H} {W : World} {fuel : Nat} {t e : TypeId} {v : Value} {x : DataW H × List MemPlace} (ht : Tryd.prog.underlying t = some (.slice e)) (h : DataW.trod enc Tryd.prog W 0 (fun _ => true) true fuel t [v] = some x) :
    ∃ p n c, v = .slice p n c := by
  rcases Go.Deep.open_slice ht h with ⟨hcs, _⟩ | ⟨a, len, cap, m, n, D, Pl, hcs, _⟩
  · simp at hcs; exact ⟨_, _, _, hcs⟩
  · simp at hcs; exact ⟨_, _, _, hcs⟩
set_option maxRecDepth 100000 in
set_option maxHeartbeats 1000000 in
theorem open_func {H : Type} {enc : TypeId × Value → H} {W : World} {b0 : Nat} {v : Value} {d : DataW H} {p : List MemPlace} (hv : Value.okWide Tryd.prog W .any b0 27 v)
    (h : DataW.Trod enc Tryd.prog W 0 (fun _ => true) true 27 v d p) (hz : ∀ x ∈ DataW.weights Tryd.prog 27 d, x ≤ reachBytes) :
    ∃ (r : RestV) (F : FuncD) (iv rv : Value), v = funcV r F iv rv ∧ Ii W iv F.ins ∧ Rg W rv F.regions ∧ F.ins.length ≤ Rows.uptoBulk d ∧ F.regions.length ≤ Rows.uptoBulk d := by
  obtain ⟨cs, rfl, hsz⟩ := okWide_struct Tryd.underlying27 hv
  obtain ⟨c0, c1, c2, c3, c4, c5, c6, c7, c8, c9, rfl⟩ := agg10 (hsz.trans (by kernel_rfl))
  obtain ⟨fuel, hf⟩ := h
  obtain ⟨ys, n, hx, hlen, hg⟩ := agg_fields Tryd.underlying27 (by kernel_rfl) (k := 10) (by kernel_rfl) rfl hf
  obtain ⟨y0, y1, y2, y3, y4, y5, y6, y7, y8, y9, rfl⟩ := list10 hlen
  obtain rfl : d = _ := hx
  obtain ⟨v0, z0, e0, k0, t0⟩ := hg 0 _ rfl
  obtain ⟨v1, z1, e1, k1, t1⟩ := hg 1 _ rfl
  obtain ⟨v2, z2, e2, k2, t2⟩ := hg 2 _ rfl
  obtain ⟨v3, z3, e3, k3, t3⟩ := hg 3 _ rfl
  obtain ⟨v4, z4, e4, k4, t4⟩ := hg 4 _ rfl
  obtain ⟨v5, z5, e5, k5, t5⟩ := hg 5 _ rfl
  obtain ⟨v6, z6, e6, k6, t6⟩ := hg 6 _ rfl
  obtain ⟨v7, z7, e7, k7, t7⟩ := hg 7 _ rfl
  obtain ⟨v8, z8, e8, k8, t8⟩ := hg 8 _ rfl
  obtain ⟨v9, z9, e9, k9, t9⟩ := hg 9 _ rfl
  simp only [Value.cells, List.getElem?_cons_zero, List.getElem?_cons_succ, Option.some.injEq] at e0 e1 e2 e3 e4 e5 e6 e7 e8 e9 k0 k1 k2 k3 k4 k5 k6 k7 k8 k9
  subst e0 e1 e2 e3 e4 e5 e6 e7 e8 e9 k0 k1 k2 k3 k4 k5 k6 k7 k8 k9
  obtain ⟨s0, f0, _⟩ := DataW.trod_string Tryd.underlying9 t0
  obtain ⟨a1, f1, _⟩ := DataW.trod_int Tryd.underlying3 t1
  obtain ⟨a2, f2, _⟩ := DataW.trod_int Tryd.underlying3 t2
  obtain ⟨a3, f3, _⟩ := DataW.trod_int Tryd.underlying3 t3
  obtain ⟨a4, f4, _⟩ := DataW.trod_bool Tryd.underlying4 t4
  obtain ⟨a5, f5, _⟩ := DataW.trod_int Tryd.underlying3 t5
  obtain ⟨np, nn, nc, rfl⟩ := slice_val Tryd.underlying22 t6
  obtain ⟨cp, cn, cc, rfl⟩ := slice_val Tryd.underlying23 t7
  simp at f0 f1 f2 f3 f4 f5
  subst f0 f1 f2 f3 f4 f5
  obtain ⟨is, hi, hil⟩ := open_insz t8 (fun y hy => hz y (by simp [DataW.weights, DataW.weightsEach, Tryd.underlying27, hy]))
  obtain ⟨rs, hr, hrl⟩ := open_regz t9 (fun y hy => hz y (by simp [DataW.weights, DataW.weightsEach, Tryd.underlying27, hy]))
  refine ⟨⟨s0, a3, a4, a5, np, nn, nc, cp, cn, cc⟩, ⟨a1, a2, is, rs⟩, _, _, rfl, hi, hr, ?_, ?_⟩
  · have := bulk_mem (H := H) (d := y8.1) (l := [y0.1, y1.1, y2.1, y3.1, y4.1, y5.1, y6.1, y7.1, y8.1, y9.1]) (by simp)
    simp only [Rows.uptoBulk, List.map_cons, List.map_nil]
    omega
  · have := bulk_mem (H := H) (d := y9.1) (l := [y0.1, y1.1, y2.1, y3.1, y4.1, y5.1, y6.1, y7.1, y8.1, y9.1]) (by simp)
    simp only [Rows.uptoBulk, List.map_cons, List.map_nil]
    omega
end Go.Proofs.YtnniohimbmnapaaDoor
