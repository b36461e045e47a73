/- strconv's tables, as the laid variables read. Layer 3: the tables of strconv, found on the list of the laid variables. Layer 3: strconv's tables, found on the list of the laid variables: what ParseFloat reads. Opening an argument that is a big number (a struct of a sign and a list of words): what the walk is told of it. Opening an argument that is a plain value (a struct of a kind, a truth, a number, bits, a text and items): what the walk is told of it. -/
import Derived.Test.YtpebnofjcodikaaGreatDoorPGPiF
import Derived.Deep.Slices
import Derived.Deep.Fields
import Derived.ChangeArms
import Derived.OpenShut
import Derived.Lib.LaidTab
import Derived.Lib.LaidU8
import Derived.FnData
import Derived.Test.YtpebnofjcodikaaGreatDoorRows
import Derived.Test.YtpebnofjcodikaaGreatDoorPGRlD
import Derived.ProofKit
import Derived.SizedLaws
import Derived.Lib.SmallJoins
import Derived.Carry
import Derived.MakeChecks
import Derived.Test.YtpebnofjcodikaaGreatDoorPRd
import Derived.ChangeMaps5
namespace Go.Proofs.YtpebnofjcodikaaGreatDoor
section
open Go Go.ChangeShapes Go.WideShapes Go.RowKit
set_option linter.unusedVariables false
set_option linter.unusedSimpArgs false
/-- How a laid variable is read. -/
noncomputable abbrev Rdt (W : World) (fuel : Nat) (t : TypeId) (cs : List Value) : Option (DataW Unit × List MemPlace) := DataW.trod (fun _ => ()) Tryz.prog W 0 (fun _ => true) false fuel t cs
theorem trod_float {W : World} {k : FloatKind} {t : TypeId} {fuel : Nat} {cs : List Value} {x : DataW Unit × List MemPlace} (ht : Tryz.prog.underlying t = some (.float k)) (h : Rdt W fuel t cs = some x) : ∃ n, cs = [.float k n] ∧ x = (.lit (.float k n), []) := by
  unfold Rdt at h
  cases fuel with
  | zero => simp [DataW.trod] at h
  | succ n =>
    unfold DataW.trod at h
    rw [ht] at h
    split at h <;> simp_all
theorem trod_ifc {W : World} {t : TypeId} {ms : Array (String × TypeId)} {fuel : Nat} {cs : List Value} {s : String} {d : DataW Unit} {p : List MemPlace} (ht : Tryz.prog.underlying t = some (.interface ms)) (h : Rdt W fuel t cs = some (.iface s d, p)) : ∃ u v, cs = [.iface u v] := by
  unfold Rdt at h
  cases fuel with
  | zero => simp [DataW.trod] at h
  | succ n =>
    unfold DataW.trod at h
    rw [ht] at h
    split at h <;> simp_all
theorem row1 {W : World} {t e : TypeId} {fuel : Nat} {cs : List Value} {ds : List (DataW Unit)} {p : List MemPlace} (ht : Tryz.prog.underlying t = some (.slice e)) (hc : Tryz.prog.cellsOf e = 1) (h : Rdt W fuel t cs = some (.slice ds [], p)) (hn : 0 < ds.length) :
    ∃ R o c, ∃ V : Nat → Value, cs = [.slice (some ⟨R, o, none⟩) ds.length c] ∧ ds.length ≤ c ∧ R < W.heap.size ∧ ∀ i d, ds[i]? = some d → W.cell? ⟨R, o + i, none⟩ = some (V i) ∧ ∃ n q, Rdt W n e [V i] = some (d, q) := by
  rcases Go.Deep.open_slice1 ht hc h with ⟨_, hx⟩ | ⟨a, len, cap, m, n, V, D, Pl, hcs, _, hl, hm, hme, hx, hel⟩
  · cases hx
  · obtain rfl : m = cap := by simpa using hme
    have hx1 := congrArg Prod.fst hx
    simp only [DataW.slice.injEq] at hx1
    obtain ⟨hd, hr⟩ := hx1
    have hlen : ds.length = len := by rw [hd]; simp
    obtain ⟨b, off, s⟩ := a
    obtain ⟨h0, _⟩ := hel 0 (by omega)
    have hs : s = none := by simpa [Addr.add] using World.cell?_spot h0
    subst hs
    have hadd : ∀ i, (⟨b, off, none⟩ : Addr).add i = ⟨b, off + i, none⟩ := fun i => by
      unfold Addr.add
      split
      · rename_i e; rw [e]; rfl
      · rfl
    refine ⟨b, off, m, V, by rw [hlen]; exact hcs, by omega, ?_, fun i d hi => ?_⟩
    · rw [hadd] at h0; exact World.block_lt_of_cell? W _ h0
    · have hil : i < len := by rw [← hlen]; exact (List.getElem?_eq_some_iff.1 hi).1
      obtain ⟨h1, h2⟩ := hel i (by omega)
      rw [hadd] at h1
      rw [hd] at hi
      simp [hil] at hi
      exact ⟨h1, n, Pl i, by rw [← hi]; exact h2⟩
theorem lit_int {W : World} {k : IntKind} {t : TypeId} {fuel : Nat} {cs : List Value} {n : Int} {p : List MemPlace} (ht : Tryz.prog.underlying t = some (.int k)) (h : Rdt W fuel t cs = some (.lit (.int k n), p)) : cs = [.int k n] := by
  obtain ⟨m, h1, h2, _⟩ := DataW.trod_int ht h
  simp at h2
  rw [h1, h2.1]
theorem lit_flt {W : World} {k : FloatKind} {t : TypeId} {fuel : Nat} {cs : List Value} {n : Nat} {p : List MemPlace} (ht : Tryz.prog.underlying t = some (.float k)) (h : Rdt W fuel t cs = some (.lit (.float k n), p)) : cs = [.float k n] := by
  obtain ⟨m, h1, h2⟩ := trod_float ht h
  simp at h2
  rw [h1, h2.1]
theorem lit_str {W : World} {t : TypeId} {fuel : Nat} {cs : List Value} {l : List UInt8} {p : List MemPlace} (ht : Tryz.prog.underlying t = some .string) (h : Rdt W fuel t cs = some (.lit (.string l), p)) : cs = [.string ⟨l.toArray⟩] := by
  obtain ⟨m, h1, h2, _⟩ := DataW.trod_string ht h
  simp at h2
  rw [h1, h2.1]
/-- A variable of the list, read: its cells. -/
structure VarR (W : World) (g t : Nat) (d : DataW Unit) : Prop where
  ex : ∃ (cs : Array Value) (fuel : Nat) (p : List MemPlace), (∀ i, W.cell? ⟨g, i, none⟩ = cs[i]?) ∧ Rdt W fuel t cs.toList = some (d, p)
theorem varR_of {W : World} {laid : List (String × DataW Unit)} (h : laidMet Tryz.prog laid W) {n : String} {d : DataW Unit} (hm : (n, d) ∈ laid) {g t : Nat} (hg : Tryz.prog.globalNamed n = some g) (ht : (Tryz.prog.globals[g]?).map (·.type) = some t) : VarR W g t d := by
  obtain ⟨g', t', cs, fuel, p, hg', hty, hvar, hd⟩ := Lib.laidMet.reads h hm
  obtain rfl := Option.some.inj (hg.symm.trans hg')
  obtain rfl := Option.some.inj (ht.symm.trans hty)
  exact ⟨cs, fuel, p, fun i => World.var?_cell hg hvar i, hd⟩
theorem VarR.one {W : World} {g t : Nat} {d : DataW Unit} (h : VarR W g t d) {v : Value} (hv : ∀ fuel cs p, Rdt W fuel t cs = some (d, p) → cs = [v]) : W.cell? ⟨g, 0, none⟩ = some v := by
  obtain ⟨cs, fuel, p, hc, hd⟩ := h.ex
  rw [hc, ← Array.getElem?_toList, hv _ _ _ hd]
  rfl
theorem opt_of {W : World} (h : VarR W 9 4 (.lit (.bool true))) : W.cell? ⟨9, 0, none⟩ = some (.bool true) := by
  refine h.one fun fuel cs p hd => ?_
  obtain ⟨b, h1, h2⟩ := DataW.trod_bool Tryz.underlying4 hd
  simp at h2
  rw [h1, ← h2.1]
theorem err_of {W : World} {s : String} {d : DataW Unit} (h : VarR W 2 64 (.iface s d)) : ∃ u v, W.cell? ⟨2, 0, none⟩ = some (.iface u v) := by
  obtain ⟨cs, fuel, p, hc, hd⟩ := h.ex
  obtain ⟨u, v, hu⟩ := trod_ifc Tryz.underlying64 hd
  refine ⟨u, v, ?_⟩
  rw [hc, ← Array.getElem?_toList, hu]
  rfl
theorem pwt_of {W : World} (h : VarR W 17 267 (.slice [.lit (.int .i64 1), .lit (.int .i64 3), .lit (.int .i64 6), .lit (.int .i64 9), .lit (.int .i64 13), .lit (.int .i64 16), .lit (.int .i64 19), .lit (.int .i64 23), .lit (.int .i64 26)] [])) : PWT W W.heap.size := by
  obtain ⟨cs, fuel, p, hc, hd⟩ := h.ex
  obtain ⟨R, o, c, V, h1, h2, h3, h4⟩ := row1 Tryz.underlying267 (by kernel_rfl) hd (by decide)
  have h0 := hc 0
  rw [← Array.getElem?_toList, h1] at h0
  refine ⟨R, o, c, h3, h2, h0, World.block_lt_of_cell? W _ h0, fun i hi => ?_⟩
  have key : ∀ n, [DataW.lit (.int .i64 1), .lit (.int .i64 3), .lit (.int .i64 6), .lit (.int .i64 9), .lit (.int .i64 13), .lit (.int .i64 16), .lit (.int .i64 19), .lit (.int .i64 23), .lit (.int .i64 26)][i]? = some (.lit (.int .i64 n)) → W.cell? ⟨R, o + i, none⟩ = some (.int .i64 n) := fun n hn => by
    obtain ⟨k1, m, q, k2⟩ := h4 i _ hn
    have := lit_int Tryz.underlying3 k2
    simp only [List.cons.injEq, and_true] at this
    rw [k1, this]
  match i, hi with
  | 0, _ => exact key _ rfl
  | 1, _ => exact key _ rfl
  | 2, _ => exact key _ rfl
  | 3, _ => exact key _ rfl
  | 4, _ => exact key _ rfl
  | 5, _ => exact key _ rfl
  | 6, _ => exact key _ rfl
  | 7, _ => exact key _ rfl
  | 8, _ => exact key _ rfl
/-- The exact powers of ten. -/
def fpw : List Nat := [4607182418800017408, 4621819117588971520, 4636737291354636288, 4652007308841189376, 4666723172467343360, 4681608360884174848, 4696837146684686336, 4711630319722168320, 4726483295884279808, 4741671816366391296, 4756540486875873280, 4771362005757984768, 4786511204640096256, 4801453603149578240, 4816244402031689728, 4831355200913801216, 4846369599423283200, 4861130398305394688, 4876203697187506176, 4891288408196988160, 4906019910204099648, 4921056587992461136, 4936209963552724370]
def fpT (k : Nat) : Nat := fpw.getD k 0
theorem fpT_ok : ∀ k, k < 23 → 0 < fpT k ∧ fpT k < fIN := by
  have h : ∀ k : Fin 23, 0 < fpT k.val ∧ fpT k.val < fIN := by decide +kernel
  exact fun k hk => h ⟨k, hk⟩
theorem f10_of {W : World} (h : VarR W 18 268 (.slice (fpw.map fun x => .lit (.float .f64 x)) [])) : F10 fpT W W.heap.size := by
  obtain ⟨cs, fuel, p, hc, hd⟩ := h.ex
  obtain ⟨R, o, c, V, h1, h2, h3, h4⟩ := row1 Tryz.underlying268 (by kernel_rfl) hd (by decide)
  have h0 := hc 0
  rw [← Array.getElem?_toList, h1] at h0
  refine ⟨R, o, c, h3, h2, h0, World.block_lt_of_cell? W _ h0, fun i hi => ?_⟩
  have hn : (fpw.map fun x => (DataW.lit (.float .f64 x) : DataW Unit))[i]? = some (.lit (.float .f64 (fpT i))) := by
    rw [List.getElem?_map]
    have : fpw[i]? = some (fpT i) := by
      unfold fpT
      rw [List.getElem?_eq_getElem (show i < fpw.length from hi), List.getD_eq_getElem?_getD, List.getElem?_eq_getElem (show i < fpw.length from hi)]
      rfl
    rw [this]
    rfl
  obtain ⟨k1, m, q, k2⟩ := h4 i _ hn
  have := lit_flt Tryz.underlying88 k2
  simp only [List.cons.injEq, and_true] at this
  rw [k1, this]
/-- A struct of one-cell fields, read. -/
theorem flds {W : World} {n : Nat} {e : TypeId} {fs : Array Field} {k : Nat} {cs : List Value} {ds : List (DataW Unit)} {p : List MemPlace} (he : Tryz.prog.underlying e = some (.struct fs)) (hone : Go.Deep.oneCellFields Tryz.prog fs = true)
    (hk : fs.size = k) (hl : cs.length = k) (h : Rdt W n e cs = some (.agg ds, p)) : ∀ (j : Nat) (f : Field), fs[j]? = some f → ∃ (v : Value) (d : DataW Unit) (n' : Nat) (q : List MemPlace), cs[j]? = some v ∧ ds[j]? = some d ∧ Rdt W n' f.type [v] = some (d, q) := by
  obtain ⟨ys, n', rfl, hx, hlen, hyl, hf⟩ := DataW.trod_struct he h
  intro j f hj
  obtain ⟨ho, hz⟩ := Go.Deep.hone_of hone j f hj
  have hjl : j < fs.size := (Array.getElem?_eq_some_iff.1 hj).1
  have h1 := hf j f hj
  have hjc : j < cs.length := by omega
  have hys : ys[j]? = some (ys[j]'(by omega)) := List.getElem?_eq_getElem (by omega)
  rw [ho, hz, show (cs.drop j).take 1 = [cs[j]] by rw [List.drop_eq_getElem_cons hjc]; rfl, hys] at h1
  have hx1 := congrArg Prod.fst hx
  simp only [DataW.agg.injEq] at hx1
  refine ⟨cs[j], (ys[j]'(by omega)).1, n', (ys[j]'(by omega)).2, List.getElem?_eq_getElem hjc, ?_, h1⟩
  rw [hx1, List.getElem?_map, hys]
  rfl
theorem fi_of {W : World} (h : VarR W 11 243 (.agg [.lit (.int .u64 52), .lit (.int .u64 11), .lit (.int .i64 (-1023))])) : FI W 11 W.heap.size := by
  obtain ⟨cs, fuel, p, hc, hd⟩ := h.ex
  have hl : cs.toList.length = 3 := by
    obtain ⟨_, _, _, _, hlen, _⟩ := DataW.trod_struct Tryz.underlying243 hd
    rw [hlen]; kernel_rfl
  have hf := flds Tryz.underlying243 (by kernel_rfl) (by kernel_rfl) hl hd
  obtain ⟨v0, d0, n0, q0, a0, b0, e0⟩ := hf 0 _ rfl
  obtain ⟨v1, d1, n1, q1, a1, b1, e1⟩ := hf 1 _ rfl
  obtain ⟨v2, d2, n2, q2, a2, b2, e2⟩ := hf 2 _ rfl
  simp at b0 b1 b2
  subst b0 b1 b2
  have i0 := lit_int Tryz.underlying68 e0
  have i1 := lit_int Tryz.underlying68 e1
  have i2 := lit_int Tryz.underlying3 e2
  simp only [List.cons.injEq, and_true] at i0 i1 i2
  have c0 := hc 0
  have c1 := hc 1
  have c2 := hc 2
  rw [← Array.getElem?_toList] at c0 c1 c2
  rw [a0, i0] at c0
  rw [a1, i1] at c1
  rw [a2, i2] at c2
  exact ⟨c0, c1, c2, World.block_lt_of_cell? W _ c0⟩
theorem lc_of {W : World} (h : VarR W 15 263 Pinned.leftcheats) : LC W W.heap.size := by
  obtain ⟨cs, fuel, p, hc, hd⟩ := h.ex
  unfold Pinned.leftcheats at hd
  obtain ⟨ds, hds⟩ : ∃ ds, (Pinned.cheatRows.map fun x => (DataW.agg [.lit (.int .i64 x.1), .lit (.string x.2)] : DataW Unit)) = ds := ⟨_, rfl⟩
  rw [hds] at hd
  have hdl : ds.length = 61 := by rw [← hds, List.length_map]; decide +kernel
  rcases Go.Deep.open_slice Tryz.underlying263 hd with ⟨_, hx⟩ | ⟨a, len, cap, m, n, D, Pl, hcs, _, hl, hm, hme, hx, hel⟩
  · cases hx
  · obtain rfl : m = cap := by simpa using hme
    have hx1 := congrArg Prod.fst hx
    simp only [DataW.slice.injEq] at hx1
    obtain ⟨hdd, hr⟩ := hx1
    have hlen : len = 61 := by rw [← hdl, hdd]; simp
    subst hlen
    have hC : Tryz.prog.cellsOf 262 = 2 := by kernel_rfl
    rw [hC] at hel
    obtain ⟨b, off, s⟩ := a
    obtain ⟨cs0, hc0', _⟩ := hel 0 (by omega)
    have hspot : s = none := by
      obtain ⟨_, h1, h2⟩ := World.cells?_some hc0'
      have := h2 0 (by decide)
      rw [List.getElem?_eq_getElem (by omega)] at this
      simpa [Addr.add] using World.cell?_spot this
    subst hspot
    have hat : ∀ k (cs : List Value), W.cells? 0 ((⟨b, off, none⟩ : Addr).add (k * 2)) 2 = some cs → cs.length = 2 ∧ ∀ j, j < 2 → W.cell? ⟨b, off + k * 2 + j, none⟩ = cs[j]? := by
      intro k cs h
      obtain ⟨_, h1, h2⟩ := World.cells?_some h
      refine ⟨h1, fun j hj => ?_⟩
      have := h2 j hj
      rw [Go.Deep.add_add] at this
      unfold Addr.add at this
      split at this
      · rename_i e; rw [← this, show off + k * 2 + j = off by omega]
      · rw [← this, show off + (k * 2 + j) = off + k * 2 + j by omega]
    have h0 := hc 0
    rw [← Array.getElem?_toList, hcs] at h0
    have hrow : ∀ k, k ≤ 60 → ∃ d s, Pinned.cheatRows[k]? = some (d, s) ∧ W.cell? ⟨b, off + k * 2, none⟩ = some (.int .i64 (d : Nat)) ∧ W.cell? ⟨b, off + k * 2 + 1, none⟩ = some (.string ⟨s.toArray⟩) := by
      intro k hk
      obtain ⟨d, s, hr1, _⟩ := cheat_row k hk
      refine ⟨d, s, hr1, ?_⟩
      obtain ⟨cs, hcc, htr⟩ := hel k (by omega)
      obtain ⟨hcl, hce⟩ := hat k cs hcc
      have hDk : D k = .agg [.lit (.int .i64 d), .lit (.string s)] := by
        have h1 : ds[k]? = some (.agg [.lit (.int .i64 d), .lit (.string s)]) := by rw [← hds, List.getElem?_map, hr1]; rfl
        rw [hdd] at h1
        simpa [show k < 61 by omega] using h1
      rw [hDk] at htr
      have hf := flds Tryz.underlying262 (by kernel_rfl) (by kernel_rfl) hcl htr
      obtain ⟨v0, d0, n0, q0, a0, b0, e0⟩ := hf 0 _ rfl
      obtain ⟨v1, d1, n1, q1, a1, b1, e1⟩ := hf 1 _ rfl
      simp at b0 b1
      subst b0 b1
      have i0 := lit_int Tryz.underlying3 e0
      have i1 := lit_str Tryz.underlying9 e1
      simp only [List.cons.injEq, and_true] at i0 i1
      have c0 := hce 0 (by decide)
      have c1 := hce 1 (by decide)
      rw [a0, i0] at c0
      rw [a1, i1] at c1
      exact ⟨c0, c1⟩
    obtain ⟨d, s, _, hf0, _⟩ := hrow 0 (by omega)
    refine ⟨b, off, m, World.block_lt_of_cell? W _ hf0, by omega, h0, World.block_lt_of_cell? W _ h0, fun k hk => ?_⟩
    obtain ⟨d, s, hr1, c0, c1⟩ := hrow k hk
    obtain ⟨d', s', hr2, hdk, hs⟩ := cheat_row k hk
    rw [hr1] at hr2
    simp only [Option.some.injEq, Prod.mk.injEq] at hr2
    obtain ⟨rfl, rfl⟩ := hr2
    refine ⟨by rw [c0, hdk], ⟨s.toArray⟩, c1, fun h1 => ?_⟩
    obtain ⟨z1, z2, z3, z4⟩ := hs h1
    have hsz : (⟨s.toArray⟩ : ByteArray).size = s.length := by rw [sz_list]
    rw [hsz]
    refine ⟨z1, z2, z3, fun i hi => ?_⟩
    rw [bt_at _ (by rw [hsz]; exact hi)]
    have := z4 i hi
    rw [List.getD_eq_getElem?_getD, List.getElem?_eq_getElem hi] at this
    simp only [Option.getD_some] at this
    rw [← this]
end
section
open Go.ChangeShapes Go.WideShapes Go.ChangeAt Go.RowKit Go.Joins
set_option linter.unusedVariables false
set_option linter.unusedSimpArgs false
set_option maxRecDepth 100000
theorem ownR : ownKnob Tryz.prog.godebug = none := by kernel_rfl
theorem tabIs_of_memR {P : Program} {W : World} {name : String} {k : IntKind} {zs : List Int} {laid : List (String × DataW Unit)} {g : Nat} {t e : TypeId} {n : Nat}
    (hg : P.globalNamed name = some g) (hty : (P.globals[g]?).map (·.type) = some t) (ht : P.underlying t = some (.array n e)) (he : P.underlying e = some (.int k)) (hce : P.cellsOf e = 1) (hct : P.cellsOf t = n)
    (h : laidMet P laid W) (hm : (name, Lib.tabData k zs) ∈ laid) : Lib.TabIs P W name k zs := by
  obtain ⟨g', t', cs, fuel, p, hg', ht', hvar, hd⟩ := Lib.laidMet.reads h hm
  obtain rfl := Option.some.inj (hg.symm.trans hg')
  obtain rfl := Option.some.inj (hty.symm.trans ht')
  unfold Lib.TabIs
  rw [hvar, ← Lib.cells_of_tab ht he hce hct hd]
def lists : List (String × DataW Unit) := Rows.plainLawsRow.laid
theorem noHandles : (lists.all fun x => x.2.handleName?.isNone) = true := by kernel_rfl
theorem gU10 : Tryz.prog.globalNamed "internal/strconv.uint64pow10" = some 8 := by kernel_rfl
theorem gU10Type : (Tryz.prog.globals[8]?).map (·.type) = some 198 := by kernel_rfl
theorem u10_mem : ("internal/strconv.uint64pow10", Lib.tabData .u64 Lib.pow10Tab) ∈ lists := List.mem_of_getElem? (i := 8) (by kernel_rfl)
theorem laid_plain {W : World} (h0 : laidMetH Tryz.prog lists W) : laidMet Tryz.prog lists W := by
  rw [MakeChecks.laidMetH_plain _ _ _ noHandles] at h0
  exact h0
theorem p10r_of {W : World} (h0 : laidMetH Tryz.prog lists W) : P10R W :=
  tabIs_of_memR gU10 gU10Type Tryz.underlying198 Tryz.underlying25 (by kernel_rfl) (by kernel_rfl) (laid_plain h0) u10_mem
theorem gPT : Tryz.prog.globalNamed "internal/strconv.pow10Tab" = some 14 := by kernel_rfl
theorem gPTType : (Tryz.prog.globals[14]?).map (·.type) = some 259 := by kernel_rfl
theorem pt_mem : ("internal/strconv.pow10Tab", Go.Pinned.pow10Tab) ∈ lists := List.mem_of_getElem? (i := 13) rfl
theorem cells_of_pairs {P : Program} {w : World} {fuel : Nat} {t e : TypeId} {n : Nat} {fs : Array Field} {cs : List Value} {rows : List (Nat × Nat)} {p : List MemPlace} (ht : P.underlying t = some (.array n e)) (he : P.underlying e = some (.struct fs))
    (hf : ∀ (i : Nat) (f : Field), fs[i]? = some f → P.underlying f.type = some (.int .u64) ∧ f.offset = i ∧ P.cellsOf f.type = 1) (hce : P.cellsOf e = 2) (hfs : fs.size = 2)
    (h : DataW.trod (fun _ => ()) P w 0 (fun _ => true) false fuel t cs = some (.agg (rows.map fun x => .agg [.lit (.int .u64 x.1), .lit (.int .u64 x.2)]), p)) (i a b : Nat) (hi : i < n) (hr : rows[i]? = some (a, b)) :
    cs[i * 2]? = some (.int .u64 a) ∧ cs[i * 2 + 1]? = some (.int .u64 b) := by
  obtain ⟨xs, m, hm, hx, hl, hxl, hall⟩ := DataW.trod_array ht h
  have h1 := hall i hi
  rw [hce, List.getElem?_eq_getElem (by omega)] at h1
  have hxs : xs.map (·.1) = rows.map fun x => (DataW.agg [.lit (.int .u64 x.1), .lit (.int .u64 x.2)] : DataW Unit) := by
    have := congrArg Prod.fst hx
    simpa using this.symm
  have h2 : (xs.map (·.1))[i]? = (rows.map fun x => (DataW.agg [.lit (.int .u64 x.1), .lit (.int .u64 x.2)] : DataW Unit))[i]? := by rw [hxs]
  rw [List.getElem?_map, List.getElem?_map, hr, List.getElem?_eq_getElem (by omega)] at h2
  simp only [Option.map_some, Option.some.injEq] at h2
  have h3 : DataW.trod (fun _ => ()) P w 0 (fun _ => true) false m e ((cs.drop (i * 2)).take 2) = some (.agg ([(a : Int), (b : Int)].map fun z => .lit (.int .u64 z)), (xs[i]'(by omega)).2) := by
    rw [h1]
    exact congrArg some (Prod.ext h2 rfl)
  have h4 := Lib.ints_of_struct he hf (hce.trans hfs.symm) h3
  have h5 : ((cs.drop (i * 2)).take 2)[0]? = some (.int .u64 a) := by rw [h4]; rfl
  have h6 : ((cs.drop (i * 2)).take 2)[1]? = some (.int .u64 b) := by rw [h4]; rfl
  rw [List.getElem?_take, if_pos (by omega), List.getElem?_drop] at h5 h6
  exact ⟨h5, h6⟩
theorem pm_arr : Tryz.prog.underlying 259 = some (.array 696 258) := by kernel_rfl
theorem pm_struct : ∃ fs : Array Field, Tryz.prog.underlying 258 = some (.struct fs) ∧ fs.size = 2 ∧ ∀ (i : Nat) (f : Field), fs[i]? = some f → Tryz.prog.underlying f.type = some (.int .u64) ∧ f.offset = i ∧ Tryz.prog.cellsOf f.type = 1 := by
  have h : (match Tryz.prog.underlying 258 with | some (.struct fs) => fs.toList.map (fun f => (f.type, f.offset)) | _ => []) = [(25, 0), (25, 1)] := by kernel_rfl
  split at h
  · rename_i fs he
    refine ⟨fs, he, ?_, fun i f hf => ?_⟩
    · have := congrArg List.length h
      simpa using this
    · have h2 : (fs.toList.map (fun f => (f.type, f.offset)))[i]? = some (f.type, f.offset) := by simp [hf]
      rw [h] at h2
      match i with
      | 0 =>
        simp at h2
        rw [← h2.1, ← h2.2]
        exact ⟨Tryz.underlying25, rfl, by kernel_rfl⟩
      | 1 =>
        simp at h2
        rw [← h2.1, ← h2.2]
        exact ⟨Tryz.underlying25, rfl, by kernel_rfl⟩
      | k + 2 => simp at h2
  · simp at h
end
section
open Go Go.ChangeShapes Go.WideShapes Go.ChangeAt Go.RowKit Go.Joins
set_option linter.unusedVariables false
set_option linter.unusedSimpArgs false
set_option maxRecDepth 100000
def hiP (i : Nat) : Nat := ((Pinned.pow10Rows)[i]?.getD (0, 0)).1
def loP (i : Nat) : Nat := ((Pinned.pow10Rows)[i]?.getD (0, 0)).2
theorem p10_len : (Pinned.pow10Rows).length = 696 := by decide +kernel
theorem p10_row (i : Nat) (h : i < 696) : (Pinned.pow10Rows)[i]? = some (hiP i, loP i) := by
  unfold hiP loP
  rw [List.getElem?_eq_getElem (by rw [p10_len]; exact h)]
  rfl
theorem p10_all : (Pinned.pow10Rows).all (fun x => decide (x.1 < 18446744073709551616) && decide (x.2 < 18446744073709551616)) = true := by decide +kernel
theorem hiP_lt (i : Nat) : hiP i < 18446744073709551616 ∧ loP i < 18446744073709551616 := by
  unfold hiP loP
  cases hr : (Pinned.pow10Rows)[i]? with
  | none => decide
  | some r =>
    have := List.all_eq_true.1 p10_all r (List.mem_of_getElem? hr)
    simpa using this
theorem tbf : TBF hiP loP fpT := ⟨fun i => (hiP_lt i).1, fun i => (hiP_lt i).2, fpT_ok⟩
theorem ptz_of {W : World} (h0 : laidMetH Tryz.prog lists W) : PTZ hiP loP W W.heap.size := by
  obtain ⟨g, t, cs, fuel, p, hg, hty, hvar, hd⟩ := Lib.laidMet.reads (laid_plain h0) pt_mem
  obtain rfl := Option.some.inj (gPT.symm.trans hg)
  obtain rfl := Option.some.inj (gPTType.symm.trans hty)
  obtain ⟨fs, he, hfs, hf⟩ := pm_struct
  have hall : ∀ i, i < 696 → W.cell? ⟨14, i * 2, none⟩ = some (.int .u64 (hiP i : Int)) ∧ W.cell? ⟨14, i * 2 + 1, none⟩ = some (.int .u64 (loP i : Int)) := fun i hi => by
    have h1 := cells_of_pairs pm_arr he hf (by kernel_rfl) hfs hd i _ _ hi (p10_row i hi)
    have c1 := World.var?_cell hg hvar (i * 2)
    have c2 := World.var?_cell hg hvar (i * 2 + 1)
    rw [← Array.getElem?_toList] at c1 c2
    exact ⟨c1.trans h1.1, c2.trans h1.2⟩
  exact ⟨World.block_lt_of_cell? W _ (hall 0 (by decide)).1, hall⟩
theorem fi_mem : ("internal/strconv.float64info", (.agg [.lit (.int .u64 52), .lit (.int .u64 11), .lit (.int .i64 (-1023))] : DataW Unit)) ∈ lists := List.mem_of_getElem? (i := 3) (by kernel_rfl)
theorem op_mem : ("internal/strconv.optimize", (.lit (.bool true) : DataW Unit)) ∈ lists := List.mem_of_getElem? (i := 4) (by kernel_rfl)
theorem pw_mem : ("internal/strconv.powtab", (.slice [.lit (.int .i64 1), .lit (.int .i64 3), .lit (.int .i64 6), .lit (.int .i64 9), .lit (.int .i64 13), .lit (.int .i64 16), .lit (.int .i64 19), .lit (.int .i64 23), .lit (.int .i64 26)] [] : DataW Unit)) ∈ lists := List.mem_of_getElem? (i := 5) (by kernel_rfl)
theorem fp_mem : ("internal/strconv.float64pow10", (.slice (fpw.map fun x => .lit (.float .f64 x)) [] : DataW Unit)) ∈ lists := List.mem_of_getElem? (i := 6) (by kernel_rfl)
theorem er_mem : ("strconv.ErrRange", (.iface "*errors.errorString" (.ptr (.agg [.lit (.string [118, 97, 108, 117, 101, 32, 111, 117, 116, 32, 111, 102, 32, 114, 97, 110, 103, 101])])) : DataW Unit)) ∈ lists := List.mem_of_getElem? (i := 10) (by kernel_rfl)
theorem lc_mem : ("internal/strconv.leftcheats", Pinned.leftcheats) ∈ lists := List.mem_of_getElem? (i := 12) rfl
theorem pft_of {W : World} (h0 : laidMetH Tryz.prog lists W) : ∃ tv yv, PFT hiP loP fpT tv yv W W.heap.size := by
  have h := laid_plain h0
  obtain ⟨u, v, he⟩ := err_of (varR_of h er_mem (by kernel_rfl) (by kernel_rfl))
  have ho := opt_of (varR_of h op_mem (by kernel_rfl) (by kernel_rfl))
  exact ⟨u, v, ⟨ptz_of h0, lc_of (varR_of h lc_mem (by kernel_rfl) (by kernel_rfl)), pwt_of (varR_of h pw_mem (by kernel_rfl) (by kernel_rfl)), fi_of (varR_of h fi_mem (by kernel_rfl) (by kernel_rfl)), f10_of (varR_of h fp_mem (by kernel_rfl) (by kernel_rfl)), ho, World.block_lt_of_cell? W _ ho⟩, he, World.block_lt_of_cell? W _ he⟩
end
section
open Go.ChangeShapes Go.WideShapes Go.ChangeAt Go.RowKit Go.Joins
set_option linter.unusedVariables false
set_option linter.unusedSimpArgs false
theorem bytesU64 : Tryz.prog.bytesOf 25 = 8 := by kernel_rfl
theorem own : ownKnob Tryz.prog.godebug = none := by kernel_rfl
theorem laidOut : laidOutB Tryz.prog = true := by kernel_rfl
theorem fit_of {ws : List Int} (h : ∀ n ∈ ws, (Lit.int .u64 n).wf = true) (k : Nat) : Fit (ws.take k) := by
  intro i
  rw [getD_take]
  split
  · rw [List.getD_eq_getElem?_getD]
    cases hi : ws[i]? with
    | none => simp
    | some x => simpa using wfu (h x (List.mem_of_getElem? hi))
  · omega
/-- A slice of words. -/
theorem open_words {H : Type} {enc : TypeId × Value → H} {W : World} {fuel : Nat} {v : Value} {x : DataW H × List MemPlace} (h : DataW.trod enc Tryz.prog W 0 (fun _ => true) true fuel 22 [v] = some x)
    (hz : ∀ y ∈ DataW.weights Tryz.prog 22 x.1, y ≤ reachBytes) : ∃ ws, Rd W v ws ∧ Fit ws := by
  rcases open_ints Tryz.underlying22 Tryz.underlying25 (by kernel_rfl) h with ⟨hcs, hx⟩ | ⟨a, len, cap, zs, hcs, _, hl, hm, hzs, hx, hcell, hwz⟩
  · simp at hcs
    exact ⟨[], .inl ⟨none, hcs, rfl⟩, fun i => by simp⟩
  · simp at hcs
    subst hcs
    simp only [if_true] at hzs
    have hw : cap * 8 ≤ reachBytes := by
      have := hz ((zs.take len).length * 8 + (zs.drop len).length * 8) (by
        rw [hx]; simp [DataW.weights, Tryz.underlying22, bytesU64, lits, Nat.add_mul])
      rw [← Nat.add_mul, ← List.length_append, List.take_append_drop, hzs] at this
      exact this
    have hcap : cap ≤ 17592186043904 := by unfold reachBytes at hw; omega
    by_cases hc0 : cap = 0
    · subst hc0
      obtain rfl : len = 0 := by omega
      exact ⟨[], .inl ⟨some a, rfl, rfl⟩, fun i => by simp⟩
    · obtain ⟨b, off, s⟩ := a
      have h0 := hcell 0 (by omega)
      have hs : s = none := by simpa [Addr.add] using World.cell?_spot h0
      subst hs
      refine ⟨zs.take len, .inr ⟨b, off, cap, by rw [List.length_take, hzs, Nat.min_eq_left hl], by rw [List.length_take]; omega, by rw [List.length_take]; omega, fun i hi => ?_⟩, fit_of hwz len⟩
      rw [List.length_take] at hi
      rw [getD_take, if_pos (by omega)]
      have := hcell i (by omega)
      unfold Addr.add at this
      split at this
      · rename_i e; subst e; simpa using this
      · simpa using this
end
section
open Go.ChangeShapes Go.WideShapes Go.ChangeAt Go.RowKit Go.Joins
set_option linter.unusedVariables false
set_option linter.unusedSimpArgs false
theorem array7 {a : Array Value} (h : a.size = 7) : ∃ c0 c1 c2 c3 c4 c5 c6, a = #[c0, c1, c2, c3, c4, c5, c6] := by
  obtain ⟨l⟩ := a
  match l, h with
  | [c0, c1, c2, c3, c4, c5, c6], _ => exact ⟨c0, c1, c2, c3, c4, c5, c6, rfl⟩
theorem list6 {α : Type} {l : List α} (h : l.length = 6) : ∃ c0 c1 c2 c3 c4 c5, l = [c0, c1, c2, c3, c4, c5] := by
  match l, h with
  | [c0, c1, c2, c3, c4, c5], _ => exact ⟨c0, c1, c2, c3, c4, c5, rfl⟩
set_option maxRecDepth 100000 in
set_option maxHeartbeats 1000000 in
theorem open_val {H : Type} {enc : TypeId × Value → H} {W : World} {b0 : Nat} {v : Value} {d : DataW H} {p : List MemPlace} (hv : Value.okWide Tryz.prog W .any b0 28 v)
    (h : DataW.Trod enc Tryz.prog W 0 (fun _ => true) true 28 v d p) (hz : ∀ x ∈ DataW.weights Tryz.prog 28 d, x ≤ reachBytes) :
    ∃ (k : Int) (y n : Bool) (u : Value) (ws : List Int) (b : Nat) (s : ByteArray) (ip : Option Addr) (m ic : Nat), v = .agg #[.int .i64 k, .bool y, .bool n, u, .int .u64 (b : Int), .string s, .slice ip m ic] ∧ Rd W u ws ∧ Fit ws ∧ b < 18446744073709551616 ∧ m ≤ maxLen ∧ s.size ≤ maxLen := by
  obtain ⟨cs, rfl, hsz⟩ := okWide_struct Tryz.underlying28 hv
  obtain ⟨c0, c1, c2, c3, c4, c5, c6, rfl⟩ := array7 (hsz.trans (by kernel_rfl))
  obtain ⟨fuel, hf⟩ := h
  obtain ⟨ys, n, hx, hy0, hlen, hyl, hfl⟩ := DataW.trod_struct Tryz.underlying28 hf
  obtain ⟨y0, y1, y2, y3, y4, y5, rfl⟩ := list6 (hyl.trans rfl)
  obtain ⟨rfl, rfl⟩ : d = _ ∧ p = _ := by injection hy0 with e1 e2; exact ⟨e1, e2⟩
  have g0 := hfl 0 _ rfl
  have g1 := hfl 1 _ rfl
  have g2 := hfl 2 _ rfl
  have g3 := hfl 3 _ rfl
  have g4 := hfl 4 _ rfl
  have g5 := hfl 5 _ rfl
  have C1 : ∀ t, t = 3 ∨ t = 4 ∨ t = 25 ∨ t = 9 ∨ t = 26 → Tryz.prog.cellsOf t = 1 := by
    intro t ht
    rcases ht with rfl | rfl | rfl | rfl | rfl <;> kernel_rfl
  have C2 : Tryz.prog.cellsOf 24 = 2 := by kernel_rfl
  (try dsimp only at g0)
  (try rw [C1 _ (.inl rfl)] at g0)
  (try dsimp only at g1)
  (try rw [C1 _ (.inr (.inl rfl))] at g1)
  (try dsimp only at g2)
  (try rw [C2] at g2)
  (try dsimp only at g3)
  (try rw [C1 _ (.inr (.inr (.inl rfl)))] at g3)
  (try dsimp only at g4)
  (try rw [C1 _ (.inr (.inr (.inr (.inl rfl))))] at g4)
  (try dsimp only at g5)
  (try rw [C1 _ (.inr (.inr (.inr (.inr rfl))))] at g5)
  change DataW.trod enc Tryz.prog W 0 (fun _ => true) true n 3 [c0] = some y0 at g0
  change DataW.trod enc Tryz.prog W 0 (fun _ => true) true n 4 [c1] = some y1 at g1
  change DataW.trod enc Tryz.prog W 0 (fun _ => true) true n 24 [c2, c3] = some y2 at g2
  change DataW.trod enc Tryz.prog W 0 (fun _ => true) true n 25 [c4] = some y3 at g3
  change DataW.trod enc Tryz.prog W 0 (fun _ => true) true n 9 [c5] = some y4 at g4
  change DataW.trod enc Tryz.prog W 0 (fun _ => true) true n 26 [c6] = some y5 at g5
  obtain ⟨k, e0, _, _⟩ := DataW.trod_int Tryz.underlying3 g0
  obtain ⟨y, e1, _⟩ := DataW.trod_bool Tryz.underlying4 g1
  obtain ⟨b, e3, _, wb⟩ := DataW.trod_int Tryz.underlying25 g3
  obtain ⟨s, e4, _, hs⟩ := DataW.trod_string Tryz.underlying9 g4
  simp only [List.cons.injEq, and_true] at e0 e1 e3 e4
  subst e0 e1 e3 e4
  have wb2 : 0 ≤ b ∧ b ≤ 18446744073709551615 := by simpa [Lit.wf, IntKind.min, IntKind.max, IntKind.signed, IntKind.bits] using wb
  obtain ⟨bn, rfl⟩ : ∃ bn : Nat, b = (bn : Int) := ⟨b.toNat, by omega⟩
  obtain ⟨ip, m, ic, rfl, hm⟩ : ∃ (ip : Option Addr) (m ic : Nat), c6 = .slice ip m ic ∧ m ≤ maxLen := by
    rcases Go.Deep.open_slice Tryz.underlying26 g5 with ⟨hcs, _⟩ | ⟨a, len, cap, _, _, _, _, hcs, _, hl, hmx, _⟩
    · simp only [List.cons.injEq, and_true] at hcs
      exact ⟨none, 0, 0, hcs, by unfold maxLen; omega⟩
    · simp only [List.cons.injEq, and_true] at hcs
      exact ⟨_, len, cap, hcs, by omega⟩
  obtain ⟨zs, q, _, hz0, _, hzl, hzf⟩ := DataW.trod_struct Tryz.underlying24 g2
  obtain ⟨z0, z1, rfl⟩ : ∃ z0 z1, zs = [z0, z1] := by
    match zs, hzl with
    | [z0, z1], _ => exact ⟨z0, z1, rfl⟩
  have k0 := hzf 0 _ rfl
  have k1 := hzf 1 _ rfl
  have C3 : Tryz.prog.cellsOf 22 = 1 := by kernel_rfl
  (try dsimp only at k0)
  (try rw [C1 _ (.inr (.inl rfl))] at k0)
  (try dsimp only at k1)
  (try rw [C3] at k1)
  change DataW.trod enc Tryz.prog W 0 (fun _ => true) true q 4 [c2] = some z0 at k0
  change DataW.trod enc Tryz.prog W 0 (fun _ => true) true q 22 [c3] = some z1 at k1
  obtain ⟨nn, e2, _⟩ := DataW.trod_bool Tryz.underlying4 k0
  simp only [List.cons.injEq, and_true] at e2
  subst e2
  obtain ⟨ws, hr, hfit⟩ := open_words k1 (fun x hx => hz x (by
    rw [hz0]
    simp [DataW.weights, DataW.weightsEach, Tryz.underlying28, Tryz.underlying24]
    exact .inr (.inr (.inr (.inl hx)))))
  exact ⟨k, y, nn, c3, ws, bn, s, ip, m, ic, rfl, hr, hfit, by omega, hm, hs⟩
end
end Go.Proofs.YtpebnofjcodikaaGreatDoor
