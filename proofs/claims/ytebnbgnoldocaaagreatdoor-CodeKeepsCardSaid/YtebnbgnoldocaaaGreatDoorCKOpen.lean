/- Opening an argument that is one instruction (a struct of seven fields, the last a slice of ints); a table found anywhere on the list of the laid variables. -/
import Derived.Test.YtebnbgnoldocaaaGreatDoorRows
import Derived.Test.YtebnbgnoldocaaaGreatDoorLawCK
import Derived.ProofKit
import Derived.OpenShut
import Derived.SizedLaws
import Derived.Lib.SmallJoins
import Derived.Lib.LaidTab
import Derived.Lib.LaidU8
import Derived.Carry
import Derived.MakeChecks
import Derived.Deep.Slices
import Derived.Deep.Fields
import Derived.ChangeArms
namespace Go.Proofs.YtebnbgnoldocaaaGreatDoor
open Go.ChangeShapes Go.WideShapes Go.ChangeAt Go.RowKit Go.Joins
set_option linter.unusedVariables false
set_option linter.unusedSimpArgs false
theorem bytesInt : Tryz.prog.bytesOf 3 = 8 := by kernel_rfl
theorem own : ownKnob Tryz.prog.godebug = none := by kernel_rfl
theorem laidOut : laidOutB Tryz.prog = true := by kernel_rfl
/-- A slice of ints. -/
theorem open_riz {H : Type} {enc : TypeId × Value → H} {W : World} {fuel : Nat} {v : Value} {x : DataW H × List MemPlace} (h : DataW.trod enc Tryz.prog W 0 (fun _ => true) true fuel 22 [v] = some x)
    (hz : ∀ y ∈ DataW.weights Tryz.prog 22 x.1, y ≤ reachBytes) : ∃ ws, Ri W v ws ∧ ws.length ≤ 17592186043904 := by
  rcases open_ints Tryz.underlying22 Tryz.underlying3 (by kernel_rfl) h with ⟨hcs, hx⟩ | ⟨a, len, cap, zs, hcs, _, hl, hm, hzs, hx, hcell, hwz⟩
  · simp at hcs
    exact ⟨[], .inl ⟨none, hcs, rfl⟩, by simp⟩
  · simp at hcs
    subst hcs
    simp only [if_true] at hzs
    have hw : cap * 8 ≤ reachBytes := by
      have := hz ((zs.take len).length * 8 + (zs.drop len).length * 8) (by
        rw [hx]; simp [DataW.weights, Tryz.underlying22, bytesInt, lits, Nat.add_mul])
      rw [← Nat.add_mul, ← List.length_append, List.take_append_drop, hzs] at this
      exact this
    have hcap : cap ≤ 17592186043904 := by unfold reachBytes at hw; omega
    by_cases hc0 : cap = 0
    · subst hc0
      obtain rfl : len = 0 := by omega
      exact ⟨[], .inl ⟨some a, rfl, rfl⟩, by simp⟩
    · obtain ⟨b, off, s⟩ := a
      have h0 := hcell 0 (by omega)
      have hs : s = none := by simpa [Addr.add] using World.cell?_spot h0
      subst hs
      have hll : (zs.take len).length = len := by rw [List.length_take, hzs]; omega
      refine ⟨zs.take len, .inr ⟨b, off, cap, by rw [hll], by omega, by omega, fun i hi => ?_⟩, by omega⟩
      rw [hll] at hi
      rw [show (zs.take len).getD i 0 = zs.getD i 0 by rw [List.getD_eq_getElem?_getD, List.getD_eq_getElem?_getD, List.getElem?_take, if_pos (by omega)]]
      have := hcell i (by omega)
      unfold Addr.add at this
      split at this
      · rename_i e; subst e; simpa using this
      · simpa using this
/-- The fields of a struct, one cell each. -/
theorem agg_fields {H : Type} {enc : TypeId × Value → H} {W : World} {n : Nat} {e : TypeId} {fs : Array Field} {k : Nat} {cs : List Value} {x : DataW H × List MemPlace} (he : Tryz.prog.underlying e = some (.struct fs)) (hone : Go.Deep.oneCellFields Tryz.prog fs = true)
    (hk : fs.size = k) (hl : cs.length = k) (h : DataW.trod enc Tryz.prog W 0 (fun _ => true) true n e cs = some x) :
    ∃ (ys : List (DataW H × List MemPlace)) (n' : Nat), x.1 = .agg (ys.map (·.1)) ∧ ys.length = k ∧ ∀ (j : Nat) (f : Field), fs[j]? = some f → ∃ (v : Value) (y : DataW H × List MemPlace), cs[j]? = some v ∧ ys[j]? = some y ∧ DataW.trod enc Tryz.prog W 0 (fun _ => true) true n' f.type [v] = some y := by
  obtain ⟨ys, n', rfl, rfl, hlen, hyl, hf⟩ := DataW.trod_struct he h
  refine ⟨ys, n', rfl, hyl.trans hk, fun j f hj => ?_⟩
  obtain ⟨ho, hz⟩ := Go.Deep.hone_of hone j f hj
  have hjl : j < fs.size := (Array.getElem?_eq_some_iff.1 hj).1
  have h1 := hf j f hj
  have hjc : j < cs.length := by omega
  have hys : ys[j]? = some (ys[j]'(by omega)) := List.getElem?_eq_getElem (by omega)
  rw [ho, hz, show (cs.drop j).take 1 = [cs[j]] by rw [List.drop_eq_getElem_cons hjc]; rfl, hys] at h1
  exact ⟨cs[j], _, List.getElem?_eq_getElem hjc, hys, h1⟩
theorem agg7 {cs : Array Value} (h : cs.size = 7) : ∃ c0 c1 c2 c3 c4 c5 c6, cs = #[c0, c1, c2, c3, c4, c5, c6] := by
  obtain ⟨l⟩ := cs
  match l, h with
  | [c0, c1, c2, c3, c4, c5, c6], _ => exact ⟨_, _, _, _, _, _, _, rfl⟩
theorem list7 {α : Type} {l : List α} (h : l.length = 7) : ∃ c0 c1 c2 c3 c4 c5 c6, l = [c0, c1, c2, c3, c4, c5, c6] := by
  match l, h with
  | [c0, c1, c2, c3, c4, c5, c6], _ => exact ⟨_, _, _, _, _, _, _, rfl⟩
set_option maxRecDepth 100000 in
set_option maxHeartbeats 1000000 in
theorem open_insArg {H : Type} {enc : TypeId × Value → H} {W : World} {b0 : Nat} {v : Value} {d : DataW H} {p : List MemPlace} (hv : Value.okWide Tryz.prog W .any b0 24 v)
    (h : DataW.Trod enc Tryz.prog W 0 (fun _ => true) true 24 v d p) (hz : ∀ x ∈ DataW.weights Tryz.prog 24 d, x ≤ reachBytes) :
    ∃ (ik : InsD) (lv : Value), v = insV ik lv ∧ Ri W lv ik.l ∧ ik.l.length ≤ 17592186043904 := by
  obtain ⟨cs, rfl, hsz⟩ := okWide_struct Tryz.underlying24 hv
  obtain ⟨c0, c1, c2, c3, c4, c5, c6, rfl⟩ := agg7 (hsz.trans (by kernel_rfl))
  obtain ⟨fuel, hf⟩ := h
  obtain ⟨ys, n, hx, hlen, hg⟩ := agg_fields Tryz.underlying24 (by kernel_rfl) (k := 7) (by kernel_rfl) rfl hf
  obtain ⟨y0, y1, y2, y3, y4, y5, y6, rfl⟩ := list7 hlen
  obtain rfl : d = _ := hx
  obtain ⟨v0, z0, e0, k0, t0⟩ := hg 0 _ rfl
  obtain ⟨v1, z1, e1, k1, t1⟩ := hg 1 _ rfl
  obtain ⟨v2, z2, e2, k2, t2⟩ := hg 2 _ rfl
  obtain ⟨v3, z3, e3, k3, t3⟩ := hg 3 _ rfl
  obtain ⟨v4, z4, e4, k4, t4⟩ := hg 4 _ rfl
  obtain ⟨v5, z5, e5, k5, t5⟩ := hg 5 _ rfl
  obtain ⟨v6, z6, e6, k6, t6⟩ := hg 6 _ rfl
  simp only [Value.cells, List.getElem?_cons_zero, List.getElem?_cons_succ, Option.some.injEq] at e0 e1 e2 e3 e4 e5 e6 k0 k1 k2 k3 k4 k5 k6
  subst e0 e1 e2 e3 e4 e5 e6 k0 k1 k2 k3 k4 k5 k6
  obtain ⟨a0, f0, _⟩ := DataW.trod_int Tryz.underlying3 t0
  obtain ⟨a1, f1, _⟩ := DataW.trod_int Tryz.underlying3 t1
  obtain ⟨a2, f2, _⟩ := DataW.trod_int Tryz.underlying3 t2
  obtain ⟨a3, f3, _⟩ := DataW.trod_int Tryz.underlying3 t3
  obtain ⟨a4, f4, _⟩ := DataW.trod_int Tryz.underlying3 t4
  obtain ⟨a5, f5, _⟩ := DataW.trod_int Tryz.underlying3 t5
  simp at f0 f1 f2 f3 f4 f5
  subst f0 f1 f2 f3 f4 f5
  obtain ⟨ws, hr, hwl⟩ := open_riz t6 (fun y hy => hz y (by simp [DataW.weights, DataW.weightsEach, Tryz.underlying24, hy]))
  exact ⟨⟨a0, a1, a2, a3, a4, a5, ws⟩, _, rfl, hr, hwl⟩
/-- A table anywhere on the list of the laid variables. -/
theorem tabIs_of_mem {P : Program} {W : World} {name : String} {k : IntKind} {zs : List Int} {laid : List (String × DataW Unit)} {g : Nat} {t e : TypeId} {n : Nat}
    (hg : P.globalNamed name = some g) (hty : (P.globals[g]?).map (·.type) = some t) (ht : P.underlying t = some (.array n e)) (he : P.underlying e = some (.int k)) (hce : P.cellsOf e = 1) (hct : P.cellsOf t = n)
    (h : laidMet P laid W) (hm : (name, Lib.tabData k zs) ∈ laid) : Lib.TabIs P W name k zs := by
  obtain ⟨g', t', cs, fuel, p, hg', ht', hvar, hd⟩ := Lib.laidMet.reads h hm
  obtain rfl := Option.some.inj (hg.symm.trans hg')
  obtain rfl := Option.some.inj (hty.symm.trans ht')
  unfold Lib.TabIs
  rw [hvar, ← Lib.cells_of_tab ht he hce hct hd]
end Go.Proofs.YtebnbgnoldocaaaGreatDoor
