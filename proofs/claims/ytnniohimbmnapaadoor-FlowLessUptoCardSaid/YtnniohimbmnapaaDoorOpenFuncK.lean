/- An api.Func argument opened: its names and its constants too. -/
import Derived.Test.YtnniohimbmnapaaDoorOpenFuncL
import Derived.Test.YtnniohimbmnapaaDoorCr
namespace Go.Proofs.YtnniohimbmnapaaDoor
open Go.ChangeShapes Go.WideShapes Go.ChangeAt Go.RowKit Go.Joins
set_option linter.unusedVariables false
set_option linter.unusedSimpArgs false
theorem open_names {H : Type} {enc : TypeId × Value → H} {W : World} {fuel : Nat} {v : Value} {x : DataW H × List MemPlace} (h : DataW.trod enc Tryd.prog W 0 (fun _ => true) true fuel 22 [v] = some x) :
    ∃ p n c xs, v = .slice p n c ∧ Cr 1 W v n xs ∧ n ≤ Rows.uptoBulk x.1 ∧ (p = none → c = 0) ∧ ∀ i, i < n → ∃ s, xs[i]? = some (.string s) := by
  rcases Go.Deep.open_slice1 Tryd.underlying22 (by kernel_rfl) h with ⟨hcs, hx⟩ | ⟨a, len, cap, m, n, V, D, Pl, hcs, _, hl, hm, hme, hx, hel⟩
  · simp at hcs
    exact ⟨none, 0, 0, [], hcs, ⟨rfl, .inl ⟨none, hcs, rfl⟩⟩, by simp, fun _ => rfl, fun i hi => by omega⟩
  · simp at hcs
    subst hcs
    obtain rfl : m = cap := by simpa using hme
    subst hx
    have hlb := size_slice_elems D len ((List.range (m - len)).map fun j => D (len + j))
    by_cases hc0 : m = 0
    · subst hc0
      obtain rfl : len = 0 := by omega
      exact ⟨some a, 0, 0, [], rfl, ⟨rfl, .inl ⟨some a, rfl, rfl⟩⟩, by simp, fun _ => rfl, fun i hi => by omega⟩
    · obtain ⟨b, off, s⟩ := a
      have h0 := (hel 0 (by omega)).1
      have hs : s = none := by simpa [Addr.add] using World.cell?_spot h0
      subst hs
      have hc : ∀ j, j < len → ∃ s, W.cell? ⟨b, off + j, none⟩ = some (.string s) := fun j hj => by
        obtain ⟨h1, h2⟩ := hel j (by omega)
        generalize V j = Vj at h1 h2
        obtain ⟨s, f, _⟩ := DataW.trod_string Tryd.underlying9 h2
        simp at f
        subst f
        rw [addO] at h1
        exact ⟨s, h1⟩
      refine ⟨_, len, m, cellsL W b off (len * 1), rfl, cr_cells hl fun j hj => ?_, hlb, (fun e => by cases e), fun i hi => ?_⟩
      · obtain ⟨s, h⟩ := hc j (by omega)
        exact ⟨_, h⟩
      · obtain ⟨s, h⟩ := hc i hi
        exact ⟨s, cellsL_at (by omega) h⟩
set_option maxRecDepth 100000 in
set_option maxHeartbeats 1000000 in
theorem open_consts {H : Type} {enc : TypeId × Value → H} {W : World} {fuel : Nat} {v : Value} {x : DataW H × List MemPlace} (h : DataW.trod enc Tryd.prog W 0 (fun _ => true) true fuel 23 [v] = some x) :
    ∃ p n c xs, v = .slice p n c ∧ Cr 2 W v n xs ∧ n ≤ Rows.uptoBulk x.1 ∧ (p = none → c = 0) ∧ ∀ i, i < n → (∃ a : Int, xs[i * 2]? = some (.int .i64 a)) ∧ ∃ s, xs[i * 2 + 1]? = some (.string s) := by
  rcases Go.Deep.open_slice Tryd.underlying23 h with ⟨hcs, hx⟩ | ⟨a, len, cap, m, n, D, Pl, hcs, _, hl, hm, hme, hx, hel⟩
  · simp at hcs
    exact ⟨none, 0, 0, [], hcs, ⟨rfl, .inl ⟨none, hcs, rfl⟩⟩, by simp, fun _ => rfl, fun i hi => by omega⟩
  · simp at hcs
    subst hcs
    obtain rfl : m = cap := by simpa using hme
    subst hx
    have hlb := size_slice_elems D len ((List.range (m - len)).map fun j => D (len + j))
    by_cases hc0 : m = 0
    · subst hc0
      obtain rfl : len = 0 := by omega
      exact ⟨some a, 0, 0, [], rfl, ⟨rfl, .inl ⟨some a, rfl, rfl⟩⟩, by simp, fun _ => rfl, fun i hi => by omega⟩
    · obtain ⟨b, off, s⟩ := a
      have hC : Tryd.prog.cellsOf 84 = 2 := by kernel_rfl
      rw [hC] at hel
      obtain ⟨cs0, hc0', _⟩ := hel 0 (by omega)
      obtain rfl := cells_spot (k := 2) (by decide) hc0'
      have hc : ∀ i, i < len → (∃ a : Int, W.cell? ⟨b, off + i * 2, none⟩ = some (.int .i64 a)) ∧ ∃ s, W.cell? ⟨b, off + (i * 2 + 1), none⟩ = some (.string s) := fun i hi => by
        obtain ⟨cs, hc, ht⟩ := hel i (by omega)
        obtain ⟨hcl, hcc⟩ := cells_at hc
        obtain ⟨ys, n', hye, hyl, hf⟩ := elem_fields Tryd.underlying84 (by kernel_rfl) (by kernel_rfl) hcc hcl ht
        obtain ⟨v0, y0, c0, e0, t0⟩ := hf 0 _ rfl
        obtain ⟨v1, y1, c1, e1, t1⟩ := hf 1 _ rfl
        obtain ⟨a0, f0, _⟩ := DataW.trod_int Tryd.underlying3 t0
        obtain ⟨s1, f1, _⟩ := DataW.trod_string Tryd.underlying9 t1
        simp at f0 f1
        subst f0 f1
        exact ⟨⟨a0, by simpa using c0⟩, s1, by rw [← Nat.add_assoc]; exact c1⟩
      refine ⟨_, len, m, cellsL W b off (len * 2), rfl, cr_cells hl fun j hj => ?_, hlb, (fun e => by cases e), fun i hi => ⟨?_, ?_⟩⟩
      · obtain ⟨q, rfl | rfl⟩ : ∃ q, j = q * 2 ∨ j = q * 2 + 1 := ⟨j / 2, by omega⟩
        · obtain ⟨a, h⟩ := (hc q (by omega)).1
          exact ⟨_, h⟩
        · obtain ⟨a, h⟩ := (hc q (by omega)).2
          exact ⟨_, h⟩
      · obtain ⟨a, h⟩ := (hc i hi).1
        exact ⟨a, cellsL_at (by omega) h⟩
      · obtain ⟨a, h⟩ := (hc i hi).2
        exact ⟨a, cellsL_at (by omega) h⟩
set_option maxRecDepth 100000 in
set_option maxHeartbeats 1000000 in
theorem open_funcK {H : Type} {enc : TypeId × Value → H} {W : World} {b0 : Nat} {v : Value} {d : DataW H} {p : List MemPlace} (hv : Value.okWide Tryd.prog W .any b0 27 v)
    (h : DataW.Trod enc Tryd.prog W 0 (fun _ => true) true 27 v d p) (hz : ∀ x ∈ DataW.weights Tryd.prog 27 d, x ≤ reachBytes) (hk : Rows.uptoBulk d ≤ 1048576) :
    ∃ (r : RestV) (F : FuncD) (iv rv : Value) (nx cx : List Value), v = funcV r F iv rv ∧ Ii W iv F.ins ∧ Rg W rv F.regions ∧ F.ins.length ≤ 1048576 ∧ F.regions.length ≤ 1048576 ∧ (∀ i, i < F.ins.length → (F.ins.getD i insZ).l.length ≤ 1048576) ∧ Nm W r nx ∧ Cn W r cx := by
  obtain ⟨cs, rfl, hsz⟩ := okWide_struct Tryd.underlying27 hv
  obtain ⟨c0, c1, c2, c3, c4, c5, c6, c7, c8, c9, rfl⟩ := agg10 (hsz.trans (by kernel_rfl))
  obtain ⟨fuel, hf⟩ := h
  obtain ⟨ys, n, hx, hlen, hg⟩ := agg_fields Tryd.underlying27 (by kernel_rfl) (k := 10) (by kernel_rfl) rfl hf
  obtain ⟨y0, y1, y2, y3, y4, y5, y6, y7, y8, y9, rfl⟩ := list10 hlen
  obtain rfl : d = _ := hx
  obtain ⟨v0, z0, e0, k0, t0⟩ := hg 0 _ rfl
  obtain ⟨v1, z1, e1, k1, t1⟩ := hg 1 _ rfl
  obtain ⟨v2, z2, e2, k2, t2⟩ := hg 2 _ rfl
  obtain ⟨v3, z3, e3, k3, t3⟩ := hg 3 _ rfl
  obtain ⟨v4, z4, e4, k4, t4⟩ := hg 4 _ rfl
  obtain ⟨v5, z5, e5, k5, t5⟩ := hg 5 _ rfl
  obtain ⟨v6, z6, e6, k6, t6⟩ := hg 6 _ rfl
  obtain ⟨v7, z7, e7, k7, t7⟩ := hg 7 _ rfl
  obtain ⟨v8, z8, e8, k8, t8⟩ := hg 8 _ rfl
  obtain ⟨v9, z9, e9, k9, t9⟩ := hg 9 _ rfl
  simp only [Value.cells, List.getElem?_cons_zero, List.getElem?_cons_succ, Option.some.injEq] at e0 e1 e2 e3 e4 e5 e6 e7 e8 e9 k0 k1 k2 k3 k4 k5 k6 k7 k8 k9
  subst e0 e1 e2 e3 e4 e5 e6 e7 e8 e9 k0 k1 k2 k3 k4 k5 k6 k7 k8 k9
  obtain ⟨s0, f0, _⟩ := DataW.trod_string Tryd.underlying9 t0
  obtain ⟨a1, f1, _⟩ := DataW.trod_int Tryd.underlying3 t1
  obtain ⟨a2, f2, _⟩ := DataW.trod_int Tryd.underlying3 t2
  obtain ⟨a3, f3, _⟩ := DataW.trod_int Tryd.underlying3 t3
  obtain ⟨a4, f4, _⟩ := DataW.trod_bool Tryd.underlying4 t4
  obtain ⟨a5, f5, _⟩ := DataW.trod_int Tryd.underlying3 t5
  obtain ⟨np, nn, nc, nx, rfl, hnr, hnl, hnz, hns⟩ := open_names t6
  obtain ⟨cp, cn, cc, cx, rfl, hcr, hcl, hcz, hcs⟩ := open_consts t7
  simp at f0 f1 f2 f3 f4 f5
  subst f0 f1 f2 f3 f4 f5
  obtain ⟨is, hi, hil, hill⟩ := open_inszL t8 (fun y hy => hz y (by simp [DataW.weights, DataW.weightsEach, Tryd.underlying27, hy]))
  obtain ⟨rs, hr, hrl⟩ := open_regz t9 (fun y hy => hz y (by simp [DataW.weights, DataW.weightsEach, Tryd.underlying27, hy]))
  simp only [Rows.uptoBulk, List.map_cons, List.map_nil] at hk
  have hb : ∀ y ∈ [y0.1, y1.1, y2.1, y3.1, y4.1, y5.1, y6.1, y7.1, y8.1, y9.1], Rows.uptoBulk y ≤ 1048576 := fun y hy => by
    have := bulk_mem (H := H) hy
    omega
  have h6 := hb y6.1 (by simp)
  have h7 := hb y7.1 (by simp)
  have h8 := hb y8.1 (by simp)
  have h9 := hb y9.1 (by simp)
  refine ⟨⟨s0, a3, a4, a5, np, nn, nc, cp, cn, cc⟩, ⟨a1, a2, is, rs⟩, _, _, nx, cx, rfl, hi, hr, ?_, ?_, fun i hii => ?_, ⟨hnr, hns, ?_, hnz⟩, ⟨hcr, hcs, ?_, hcz⟩⟩
  · show is.length ≤ _; omega
  · show rs.length ≤ _; omega
  · have h2 := hill i hii
    show (is.getD i insZ).l.length ≤ _
    omega
  · show nn ≤ _; omega
  · show cn ≤ _; omega
end Go.Proofs.YtnniohimbmnapaaDoor
