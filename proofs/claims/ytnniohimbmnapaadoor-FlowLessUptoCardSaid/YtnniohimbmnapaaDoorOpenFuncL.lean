/- An api.Func argument opened: the lists of its instructions are bounded too. -/
import Derived.Test.YtnniohimbmnapaaDoorOpenFunc
namespace Go.Proofs.YtnniohimbmnapaaDoor
open Go.ChangeShapes Go.WideShapes Go.ChangeAt Go.RowKit Go.Joins
set_option linter.unusedVariables false
set_option linter.unusedSimpArgs false
theorem open_rizL {H : Type} {enc : TypeId × Value → H} {W : World} {fuel : Nat} {v : Value} {x : DataW H × List MemPlace} (h : DataW.trod enc Tryd.prog W 0 (fun _ => true) true fuel 31 [v] = some x)
    (hz : ∀ y ∈ DataW.weights Tryd.prog 31 x.1, y ≤ reachBytes) : ∃ ws, Ri W v ws ∧ ws.length ≤ 17592186043904 ∧ ws.length ≤ Rows.uptoBulk x.1 := by
  rcases open_ints Tryd.underlying31 Tryd.underlying3 (by kernel_rfl) h with ⟨hcs, hx⟩ | ⟨a, len, cap, zs, hcs, _, hl, hm, hzs, hx, hcell, hwz⟩
  · simp at hcs
    exact ⟨[], .inl ⟨none, hcs, rfl⟩, by simp, by simp⟩
  · simp at hcs
    subst hcs
    simp only [if_true] at hzs
    have hw : cap * 8 ≤ reachBytes := by
      have := hz ((zs.take len).length * 8 + (zs.drop len).length * 8) (by
        rw [hx]; simp [DataW.weights, Tryd.underlying31, bytesInt, lits, Nat.add_mul])
      rw [← Nat.add_mul, ← List.length_append, List.take_append_drop, hzs] at this
      exact this
    have hcap : cap ≤ 17592186043904 := by unfold reachBytes at hw; omega
    by_cases hc0 : cap = 0
    · subst hc0
      obtain rfl : len = 0 := by omega
      exact ⟨[], .inl ⟨some a, rfl, rfl⟩, by simp, by simp⟩
    · obtain ⟨b, off, s⟩ := a
      have h0 := hcell 0 (by omega)
      have hs : s = none := by simpa [Addr.add] using World.cell?_spot h0
      subst hs
      have hll : (zs.take len).length = len := by rw [List.length_take, hzs]; omega
      refine ⟨zs.take len, .inr ⟨b, off, cap, by rw [hll], by omega, by omega, fun i hi => ?_⟩, by omega, by
        rw [hx]
        simp only [Rows.uptoBulk]
        have := bulk_len (lits (H := H) .i64 (zs.take len))
        rw [show (lits (H := H) .i64 (zs.take len)).length = (zs.take len).length from List.length_map ..] at this
        omega⟩
      rw [hll] at hi
      rw [show (zs.take len).getD i 0 = zs.getD i 0 by rw [List.getD_eq_getElem?_getD, List.getD_eq_getElem?_getD, List.getElem?_take, if_pos (by omega)]]
      have := hcell i (by omega)
      unfold Addr.add at this
      split at this
      · rename_i e; subst e; simpa using this
      · simpa using this
set_option maxRecDepth 100000 in
set_option maxHeartbeats 1000000 in
theorem open_inszL {H : Type} {enc : TypeId × Value → H} {W : World} {fuel : Nat} {v : Value} {x : DataW H × List MemPlace} (h : DataW.trod enc Tryd.prog W 0 (fun _ => true) true fuel 24 [v] = some x)
    (hz : ∀ y ∈ DataW.weights Tryd.prog 24 x.1, y ≤ reachBytes) : ∃ is, Ii W v is ∧ is.length ≤ Rows.uptoBulk x.1 ∧ ∀ i, i < is.length → (is.getD i insZ).l.length ≤ Rows.uptoBulk x.1 := by
  rcases Go.Deep.open_slice Tryd.underlying24 h with ⟨hcs, hx⟩ | ⟨a, len, cap, m, n, D, Pl, hcs, _, hl, hm, hme, hx, hel⟩
  · simp at hcs
    exact ⟨[], .inl ⟨none, hcs, rfl⟩, by simp, by simp⟩
  · simp at hcs
    subst hcs
    obtain rfl : m = cap := by simpa using hme
    subst hx
    have hwe : (DataW.slice ((List.range len).map D) ((List.range (m - len)).map fun j => D (len + j))).weights Tryd.prog 24 = ((List.range len).map D ++ (List.range (m - len)).map fun j => D (len + j)).length * 72 :: (DataW.weightsAll Tryd.prog 50 ((List.range len).map D) ++ DataW.weightsAll Tryd.prog 50 ((List.range (m - len)).map fun j => D (len + j))) := by
      simp [DataW.weights, Tryd.underlying24, bytesIns]
    rw [hwe] at hz
    have hw : m * 72 ≤ reachBytes := by
      have := hz _ (List.mem_cons_self ..)
      simp only [List.length_append, List.length_map, List.length_range] at this
      rwa [show len + (m - len) = m by omega] at this
    have hcap : m ≤ 2199023255552 := by unfold reachBytes at hw; omega
    have hlb := size_slice_elems D len ((List.range (m - len)).map fun j => D (len + j))
    by_cases hc0 : m = 0
    · subst hc0
      obtain rfl : len = 0 := by omega
      exact ⟨[], .inl ⟨some a, rfl, rfl⟩, by simp, by simp⟩
    · obtain ⟨b, off, s⟩ := a
      have hC : Tryd.prog.cellsOf 50 = 7 := by kernel_rfl
      rw [hC] at hel
      obtain ⟨cs0, hc0', _⟩ := hel 0 (by omega)
      obtain rfl := cells_spot (k := 7) (by decide) hc0'
      have hrow : ∀ i, i < len → ∃ q : InsD × Value, At7 W b (off + i * 7) q.1 q.2 ∧ q.1.l.length ≤ Rows.uptoBulkAll ((List.range len).map D) := fun i hi => by
        obtain ⟨cs, hc, ht⟩ := hel i (by omega)
        obtain ⟨hcl, hcc⟩ := cells_at hc
        obtain ⟨ys, n', hye, hyl, hf⟩ := elem_fields Tryd.underlying50 (by kernel_rfl) (by kernel_rfl) hcc hcl ht
        obtain ⟨v0, y0, c0, e0, t0⟩ := hf 0 _ rfl
        obtain ⟨v1, y1, c1, e1, t1⟩ := hf 1 _ rfl
        obtain ⟨v2, y2, c2, e2, t2⟩ := hf 2 _ rfl
        obtain ⟨v3, y3, c3, e3, t3⟩ := hf 3 _ rfl
        obtain ⟨v4, y4, c4, e4, t4⟩ := hf 4 _ rfl
        obtain ⟨v5, y5, c5, e5, t5⟩ := hf 5 _ rfl
        obtain ⟨v6, y6, c6, e6, t6⟩ := hf 6 _ rfl
        obtain ⟨a0, f0, _⟩ := DataW.trod_int Tryd.underlying3 t0
        obtain ⟨a1, f1, _⟩ := DataW.trod_int Tryd.underlying3 t1
        obtain ⟨a2, f2, _⟩ := DataW.trod_int Tryd.underlying3 t2
        obtain ⟨a3, f3, _⟩ := DataW.trod_int Tryd.underlying3 t3
        obtain ⟨a4, f4, _⟩ := DataW.trod_int Tryd.underlying3 t4
        obtain ⟨a5, f5, _⟩ := DataW.trod_int Tryd.underlying3 t5
        simp at f0 f1 f2 f3 f4 f5
        subst f0 f1 f2 f3 f4 f5
        have hyy : ys = [y0, y1, y2, y3, y4, y5, y6] := by
          refine List.ext_getElem? fun j => ?_
          match j with
          | 0 => exact e0
          | 1 => exact e1
          | 2 => exact e2
          | 3 => exact e3
          | 4 => exact e4
          | 5 => exact e5
          | 6 => exact e6
          | j + 7 => rw [List.getElem?_eq_none (by omega)]; simp
        have hye' : D i = .agg (ys.map (·.1)) := hye
        have hbi := bulk_mem (H := H) (d := D i) (l := (List.range len).map D) (List.mem_map.2 ⟨i, List.mem_range.2 hi, rfl⟩)
        have hb6 := bulk_mem (H := H) (d := y6.1) (l := ys.map (·.1)) (by rw [hyy]; simp)
        have hba : Rows.uptoBulk (D i) ≥ Rows.uptoBulkAll (ys.map (·.1)) := by rw [hye']; simp only [Rows.uptoBulk]; omega
        obtain ⟨ws, hr, hwl, hwb⟩ := open_rizL t6 (fun y hy => hz y (List.mem_cons_of_mem _ (List.mem_append.2 (.inl (weightsAll_mem (List.mem_map.2 ⟨i, List.mem_range.2 hi, rfl⟩) (by
          have hyy : ys = [y0, y1, y2, y3, y4, y5, y6] := by
            refine List.ext_getElem? fun j => ?_
            match j with
            | 0 => exact e0
            | 1 => exact e1
            | 2 => exact e2
            | 3 => exact e3
            | 4 => exact e4
            | 5 => exact e5
            | 6 => exact e6
            | j + 7 => rw [List.getElem?_eq_none (by omega)]; simp
          have hye' : D i = .agg (ys.map (·.1)) := hye
          rw [hye', hyy]
          simp [DataW.weights, DataW.weightsEach, Tryd.underlying50]
          simp [hy]))))))
        exact ⟨(⟨a0, a1, a2, a3, a4, a5, ws⟩, v6), ⟨c0, c1, c2, c3, c4, c5, c6, hr, hwl⟩, by show ws.length ≤ _; omega⟩
      obtain ⟨R, hR⟩ : ∃ R : Nat → InsD × Value, ∀ i, i < len → At7 W b (off + i * 7) (R i).1 (R i).2 ∧ (R i).1.l.length ≤ Rows.uptoBulkAll ((List.range len).map D) := by
        classical
        exact ⟨fun i => if h : i < len then Classical.choose (hrow i h) else (insZ, .bool false), fun i hi => by simp only [dif_pos hi]; exact Classical.choose_spec (hrow i hi)⟩
      have hget : ∀ i, i < len → ((List.range len).map fun r => (R r).1).getD i insZ = (R i).1 := fun i hi => by
        rw [List.getD_eq_getElem?_getD, List.getElem?_map, List.getElem?_range hi]; rfl
      refine ⟨(List.range len).map fun r => (R r).1, .inr ⟨b, off, m, by simp, by simpa using hl, by simp; omega, fun i hi => ?_⟩, by simpa using hlb, fun i hi => ?_⟩
      · have hi' : i < len := by simpa using hi
        rw [hget i hi']
        exact ⟨_, (hR i hi').1⟩
      · have hi' : i < len := by simpa using hi
        rw [hget i hi']
        have := (hR i hi').2
        simp only [Rows.uptoBulk]
        omega
set_option maxRecDepth 100000 in
set_option maxHeartbeats 1000000 in
theorem open_funcL {H : Type} {enc : TypeId × Value → H} {W : World} {b0 : Nat} {v : Value} {d : DataW H} {p : List MemPlace} (hv : Value.okWide Tryd.prog W .any b0 27 v)
    (h : DataW.Trod enc Tryd.prog W 0 (fun _ => true) true 27 v d p) (hz : ∀ x ∈ DataW.weights Tryd.prog 27 d, x ≤ reachBytes) :
    ∃ (r : RestV) (F : FuncD) (iv rv : Value), v = funcV r F iv rv ∧ Ii W iv F.ins ∧ Rg W rv F.regions ∧ F.ins.length ≤ Rows.uptoBulk d ∧ F.regions.length ≤ Rows.uptoBulk d ∧ ∀ i, i < F.ins.length → (F.ins.getD i insZ).l.length ≤ Rows.uptoBulk d := by
  obtain ⟨cs, rfl, hsz⟩ := okWide_struct Tryd.underlying27 hv
  obtain ⟨c0, c1, c2, c3, c4, c5, c6, c7, c8, c9, rfl⟩ := agg10 (hsz.trans (by kernel_rfl))
  obtain ⟨fuel, hf⟩ := h
  obtain ⟨ys, n, hx, hlen, hg⟩ := agg_fields Tryd.underlying27 (by kernel_rfl) (k := 10) (by kernel_rfl) rfl hf
  obtain ⟨y0, y1, y2, y3, y4, y5, y6, y7, y8, y9, rfl⟩ := list10 hlen
  obtain rfl : d = _ := hx
  obtain ⟨v0, z0, e0, k0, t0⟩ := hg 0 _ rfl
  obtain ⟨v1, z1, e1, k1, t1⟩ := hg 1 _ rfl
  obtain ⟨v2, z2, e2, k2, t2⟩ := hg 2 _ rfl
  obtain ⟨v3, z3, e3, k3, t3⟩ := hg 3 _ rfl
  obtain ⟨v4, z4, e4, k4, t4⟩ := hg 4 _ rfl
  obtain ⟨v5, z5, e5, k5, t5⟩ := hg 5 _ rfl
  obtain ⟨v6, z6, e6, k6, t6⟩ := hg 6 _ rfl
  obtain ⟨v7, z7, e7, k7, t7⟩ := hg 7 _ rfl
  obtain ⟨v8, z8, e8, k8, t8⟩ := hg 8 _ rfl
  obtain ⟨v9, z9, e9, k9, t9⟩ := hg 9 _ rfl
  simp only [Value.cells, List.getElem?_cons_zero, List.getElem?_cons_succ, Option.some.injEq] at e0 e1 e2 e3 e4 e5 e6 e7 e8 e9 k0 k1 k2 k3 k4 k5 k6 k7 k8 k9
  subst e0 e1 e2 e3 e4 e5 e6 e7 e8 e9 k0 k1 k2 k3 k4 k5 k6 k7 k8 k9
  obtain ⟨s0, f0, _⟩ := DataW.trod_string Tryd.underlying9 t0
  obtain ⟨a1, f1, _⟩ := DataW.trod_int Tryd.underlying3 t1
  obtain ⟨a2, f2, _⟩ := DataW.trod_int Tryd.underlying3 t2
  obtain ⟨a3, f3, _⟩ := DataW.trod_int Tryd.underlying3 t3
  obtain ⟨a4, f4, _⟩ := DataW.trod_bool Tryd.underlying4 t4
  obtain ⟨a5, f5, _⟩ := DataW.trod_int Tryd.underlying3 t5
  obtain ⟨np, nn, nc, rfl⟩ := slice_val Tryd.underlying22 t6
  obtain ⟨cp, cn, cc, rfl⟩ := slice_val Tryd.underlying23 t7
  simp at f0 f1 f2 f3 f4 f5
  subst f0 f1 f2 f3 f4 f5
  obtain ⟨is, hi, hil, hill⟩ := open_inszL t8 (fun y hy => hz y (by simp [DataW.weights, DataW.weightsEach, Tryd.underlying27, hy]))
  obtain ⟨rs, hr, hrl⟩ := open_regz t9 (fun y hy => hz y (by simp [DataW.weights, DataW.weightsEach, Tryd.underlying27, hy]))
  refine ⟨⟨s0, a3, a4, a5, np, nn, nc, cp, cn, cc⟩, ⟨a1, a2, is, rs⟩, _, _, rfl, hi, hr, ?_, ?_, fun i hii => ?_⟩
  · have := bulk_mem (H := H) (d := y8.1) (l := [y0.1, y1.1, y2.1, y3.1, y4.1, y5.1, y6.1, y7.1, y8.1, y9.1]) (by simp)
    simp only [Rows.uptoBulk, List.map_cons, List.map_nil]
    omega
  · have := bulk_mem (H := H) (d := y9.1) (l := [y0.1, y1.1, y2.1, y3.1, y4.1, y5.1, y6.1, y7.1, y8.1, y9.1]) (by simp)
    simp only [Rows.uptoBulk, List.map_cons, List.map_nil]
    omega
  · have := bulk_mem (H := H) (d := y8.1) (l := [y0.1, y1.1, y2.1, y3.1, y4.1, y5.1, y6.1, y7.1, y8.1, y9.1]) (by simp)
    have h2 := hill i hii
    simp only [Rows.uptoBulk, List.map_cons, List.map_nil]
    show (is.getD i insZ).l.length ≤ _
    omega
end Go.Proofs.YtnniohimbmnapaaDoor
