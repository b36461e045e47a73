/- Opening an argument that is a row of steps (structs of five fields, among them a slice of words). -/
import Derived.Test.YtilonacjmihglaaPFcStp
import Derived.Test.YtilonacjmihglaaPOpenWordsB
import Derived.Deep.Slices
import Derived.Deep.Fields
import Derived.ChangeArms
namespace Go.Proofs.Ytilonacjmihglaa
open Go.ChangeShapes Go.WideShapes Go.ChangeAt Go.RowKit Go.Joins
set_option linter.unusedVariables false
set_option linter.unusedSimpArgs false
theorem bytesStep : Try.prog.bytesOf 32 = 56 := by kernel_rfl
theorem weightsAll_mem {H : Type} {P : Program} {e : TypeId} {d : DataW H} {y : Nat} : ∀ {l : List (DataW H)}, d ∈ l → y ∈ d.weights P e → y ∈ DataW.weightsAll P e l
  | a :: r, hm, hy => by
    unfold DataW.weightsAll
    rcases List.mem_cons.1 hm with rfl | hm
    · exact List.mem_append.2 (.inl hy)
    · exact List.mem_append.2 (.inr (weightsAll_mem hm hy))
/-- The fields of a struct, one cell each. -/
theorem agg_fields {H : Type} {enc : TypeId × Value → H} {W : World} {n : Nat} {e : TypeId} {fs : Array Field} {k : Nat} {cs : List Value} {x : DataW H × List MemPlace} (he : Try.prog.underlying e = some (.struct fs)) (hone : Go.Deep.oneCellFields Try.prog fs = true)
    (hk : fs.size = k) (hl : cs.length = k) (h : DataW.trod enc Try.prog W 0 (fun _ => true) true n e cs = some x) :
    ∃ (ys : List (DataW H × List MemPlace)) (n' : Nat), x.1 = .agg (ys.map (·.1)) ∧ ys.length = k ∧ ∀ (j : Nat) (f : Field), fs[j]? = some f → ∃ (v : Value) (y : DataW H × List MemPlace), cs[j]? = some v ∧ ys[j]? = some y ∧ DataW.trod enc Try.prog W 0 (fun _ => true) true n' f.type [v] = some y := by
  obtain ⟨ys, n', rfl, rfl, hlen, hyl, hf⟩ := DataW.trod_struct he h
  refine ⟨ys, n', rfl, hyl.trans hk, fun j f hj => ?_⟩
  obtain ⟨ho, hz⟩ := Go.Deep.hone_of hone j f hj
  have hjl : j < fs.size := (Array.getElem?_eq_some_iff.1 hj).1
  have h1 := hf j f hj
  have hjc : j < cs.length := by omega
  have hys : ys[j]? = some (ys[j]'(by omega)) := List.getElem?_eq_getElem (by omega)
  rw [ho, hz, show (cs.drop j).take 1 = [cs[j]] by rw [List.drop_eq_getElem_cons hjc]; rfl, hys] at h1
  exact ⟨cs[j], _, List.getElem?_eq_getElem hjc, hys, h1⟩
theorem elem_fields {H : Type} {enc : TypeId × Value → H} {W : World} {n : Nat} {e : TypeId} {fs : Array Field} {b o k : Nat} {cs : List Value} {x : DataW H × List MemPlace} (he : Try.prog.underlying e = some (.struct fs)) (hone : Go.Deep.oneCellFields Try.prog fs = true)
    (hk : fs.size = k) (hc : ∀ j, j < k → W.cell? ⟨b, o + j, none⟩ = cs[j]?) (hl : cs.length = k) (h : DataW.trod enc Try.prog W 0 (fun _ => true) true n e cs = some x) :
    ∃ (ys : List (DataW H × List MemPlace)) (n' : Nat), x.1 = .agg (ys.map (·.1)) ∧ ys.length = k ∧ ∀ (j : Nat) (f : Field), fs[j]? = some f → ∃ (v : Value) (y : DataW H × List MemPlace), W.cell? ⟨b, o + j, none⟩ = some v ∧ ys[j]? = some y ∧ DataW.trod enc Try.prog W 0 (fun _ => true) true n' f.type [v] = some y := by
  obtain ⟨ys, n', h1, h2, h3⟩ := agg_fields he hone hk hl h
  refine ⟨ys, n', h1, h2, fun j f hj => ?_⟩
  obtain ⟨v, y, e1, e2, e3⟩ := h3 j f hj
  exact ⟨v, y, (hc j (by have := (Array.getElem?_eq_some_iff.1 hj).1; omega)).trans e1, e2, e3⟩
theorem cells_at {W : World} {b off i k : Nat} {cs : List Value} (h : W.cells? 0 ((⟨b, off, none⟩ : Addr).add (i * k)) k = some cs) : cs.length = k ∧ ∀ j, j < k → W.cell? ⟨b, off + i * k + j, none⟩ = cs[j]? := by
  obtain ⟨_, h1, h2⟩ := World.cells?_some h
  refine ⟨h1, fun j hj => ?_⟩
  have := h2 j hj
  rw [Go.Deep.add_add] at this
  unfold Addr.add at this
  split at this
  · rename_i e; rw [← this, show off + i * k + j = off by omega]
  · rw [← this, show off + (i * k + j) = off + i * k + j by omega]
theorem cells_spot {W : World} {b off k : Nat} {s : Option Nat} {cs : List Value} (hk : 0 < k) (h : W.cells? 0 ((⟨b, off, s⟩ : Addr).add (0 * k)) k = some cs) : s = none := by
  obtain ⟨_, h1, h2⟩ := World.cells?_some h
  have := h2 0 hk
  rw [List.getElem?_eq_getElem (by omega)] at this
  simpa [Addr.add] using World.cell?_spot this
set_option maxRecDepth 100000 in
set_option maxHeartbeats 1000000 in
theorem open_steps {H : Type} {enc : TypeId × Value → H} {W : World} {fuel : Nat} {v : Value} {x : DataW H × List MemPlace} (h : DataW.trod enc Try.prog W 0 (fun _ => true) true fuel 25 [v] = some x)
    (hz : ∀ y ∈ DataW.weights Try.prog 25 x.1, y ≤ reachBytes) : ∃ ss, Sts W v ss := by
  rcases Go.Deep.open_slice Try.underlying25 h with ⟨hcs, hx⟩ | ⟨a, len, cap, m, n, D, Pl, hcs, _, hl, hm, hme, hx, hel⟩
  · simp at hcs
    exact ⟨[], .inl ⟨none, hcs, rfl⟩⟩
  · simp at hcs
    subst hcs
    obtain rfl : m = cap := by simpa using hme
    subst hx
    have hwe : (DataW.slice ((List.range len).map D) ((List.range (m - len)).map fun j => D (len + j))).weights Try.prog 25 = ((List.range len).map D ++ (List.range (m - len)).map fun j => D (len + j)).length * 56 :: (DataW.weightsAll Try.prog 32 ((List.range len).map D) ++ DataW.weightsAll Try.prog 32 ((List.range (m - len)).map fun j => D (len + j))) := by
      simp [DataW.weights, Try.underlying25, bytesStep]
    rw [hwe] at hz
    have hw : m * 56 ≤ reachBytes := by
      have := hz _ (List.mem_cons_self ..)
      simp only [List.length_append, List.length_map, List.length_range] at this
      rwa [show len + (m - len) = m by omega] at this
    have hcap : m ≤ 4398046511104 := by unfold reachBytes at hw; omega
    by_cases hc0 : m = 0
    · subst hc0
      obtain rfl : len = 0 := by omega
      exact ⟨[], .inl ⟨some a, rfl, rfl⟩⟩
    · obtain ⟨b, off, s⟩ := a
      have hC : Try.prog.cellsOf 32 = 5 := by kernel_rfl
      rw [hC] at hel
      obtain ⟨cs0, hc0', _⟩ := hel 0 (by omega)
      obtain rfl := cells_spot (k := 5) (by decide) hc0'
      have hrow : ∀ i, i < len → ∃ q : StD × Value, At5 W b (off + i * 5) q.1 q.2 := fun i hi => by
        obtain ⟨cs, hc, ht⟩ := hel i (by omega)
        obtain ⟨hcl, hcc⟩ := cells_at hc
        obtain ⟨ys, n', hye, hyl, hf⟩ := elem_fields Try.underlying32 (by kernel_rfl) (by kernel_rfl) hcc hcl ht
        obtain ⟨v0, y0, c0, e0, t0⟩ := hf 0 _ rfl
        obtain ⟨v1, y1, c1, e1, t1⟩ := hf 1 _ rfl
        obtain ⟨v2, y2, c2, e2, t2⟩ := hf 2 _ rfl
        obtain ⟨v3, y3, c3, e3, t3⟩ := hf 3 _ rfl
        obtain ⟨v4, y4, c4, e4, t4⟩ := hf 4 _ rfl
        obtain ⟨a0, f0, _, w0⟩ := DataW.trod_int Try.underlying3 t0
        obtain ⟨a1, f1, _, w1⟩ := DataW.trod_int Try.underlying3 t1
        obtain ⟨a2, f2, _, w2⟩ := DataW.trod_int Try.underlying3 t2
        obtain ⟨a3, f3, _, w3⟩ := DataW.trod_int Try.underlying29 t3
        simp at f0 f1 f2 f3
        subst f0 f1 f2 f3
        obtain ⟨ws, hr, hwf⟩ := open_words t4 (fun y hy => hz y (List.mem_cons_of_mem _ (List.mem_append.2 (.inl (weightsAll_mem (List.mem_map.2 ⟨i, List.mem_range.2 hi, rfl⟩) (by
          have hyy : ys = [y0, y1, y2, y3, y4] := by
            refine List.ext_getElem? fun j => ?_
            match j with
            | 0 => exact e0
            | 1 => exact e1
            | 2 => exact e2
            | 3 => exact e3
            | 4 => exact e4
            | j + 5 => rw [List.getElem?_eq_none (by omega)]; simp
          have hye' : D i = .agg (ys.map (·.1)) := hye
          rw [hye', hyy]
          simp [DataW.weights, DataW.weightsEach, Try.underlying32]
          simp [hy]))))))
        exact ⟨(⟨a0, a1, a2, a3, ws⟩, v4), c0, c1, c2, c3, c4, hr, hwf, w1, w2, w3⟩
      obtain ⟨R, hR⟩ : ∃ R : Nat → StD × Value, ∀ i, i < len → At5 W b (off + i * 5) (R i).1 (R i).2 := by
        classical
        exact ⟨fun i => if h : i < len then Classical.choose (hrow i h) else (stZ, .bool false), fun i hi => by simp only [dif_pos hi]; exact Classical.choose_spec (hrow i hi)⟩
      have hget : ∀ i, i < len → ((List.range len).map fun r => (R r).1).getD i stZ = (R i).1 := fun i hi => by
        rw [List.getD_eq_getElem?_getD, List.getElem?_map, List.getElem?_range hi]; rfl
      refine ⟨(List.range len).map fun r => (R r).1, .inr ⟨b, off, m, by simp, by simpa using hl, by simp; omega, fun i hi => ?_⟩⟩
      have hi' : i < len := by simpa using hi
      rw [hget i hi']
      exact ⟨_, hR i hi'⟩
set_option maxRecDepth 100000 in
theorem open_stepsArg {H : Type} {enc : TypeId × Value → H} {W : World} {b0 : Nat} {v : Value} {d : DataW H} {p : List MemPlace} (hv : Value.okWide Try.prog W .any b0 25 v)
    (h : DataW.Trod enc Try.prog W 0 (fun _ => true) true 25 v d p) (hz : ∀ x ∈ DataW.weights Try.prog 25 d, x ≤ reachBytes) : ∃ ss, Sts W v ss := by
  obtain ⟨a, n, c, rfl⟩ := okWide_slice Try.underlying25 hv
  obtain ⟨f, hf⟩ := h
  exact open_steps (x := (d, p)) (by simpa [Value.cells] using hf) hz
end Go.Proofs.Ytilonacjmihglaa
