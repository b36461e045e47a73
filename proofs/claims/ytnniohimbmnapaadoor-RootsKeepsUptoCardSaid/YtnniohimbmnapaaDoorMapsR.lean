/- Layer 12: roots.Maps as rows of words; of a function that isn't sound. -/
import Derived.Test.YtnniohimbmnapaaDoorMaps
namespace Go.Proofs.YtnniohimbmnapaaDoor
open Go Go.ChangeShapes Go.WideShapes Go.RowKit
set_option linter.unusedVariables false
set_option linter.unusedSimpArgs false
theorem getD_get {l : List Nat} {i : Nat} (h : i < l.length) : l[i]? = some (l.getD i 0) := by
  rw [List.getD_eq_getElem?_getD, List.getElem?_eq_getElem h]; rfl
theorem flatA_at {F : FuncD} {L : List (List Nat)} {s : Nat} (h : ∀ y, y < F.ins.length → (L.getD y []).length = s) : ∀ k, k ≤ F.ins.length → ∀ y, y < k → alB F y = true → ∀ i, i < s → (flatA F L k)[cntA F y * s + i]? = some ((L.getD y []).getD i 0)
  | 0, _, y, hy, _, _, _ => by omega
  | k + 1, hk, y, hy, ha, i, hi => by
    have hl := flatA_len h k (by omega)
    show (flatA F L k ++ (if alB F k then L.getD k [] else []))[cntA F y * s + i]? = _
    by_cases e : y = k
    · subst e
      rw [List.getElem?_append_right (by rw [hl]; omega), hl, ha, if_pos rfl, show cntA F y * s + i - cntA F y * s = i by omega]
      exact getD_get (by rw [h y (by omega)]; exact hi)
    · have ih := flatA_at h k (by omega) y (by omega) ha i hi
      have hlt : cntA F y * s + i < (flatA F L k).length := by
        rw [hl]
        have h1 : cntA F (y + 1) ≤ cntA F k := cntA_mono F (by omega)
        have h2 : cntA F (y + 1) = cntA F y + 1 := by show cntA F y + (if alB F y then 1 else 0) = _; rw [ha]; rfl
        have h3 : (cntA F y + 1) * s ≤ cntA F k * s := Nat.mul_le_mul_right _ (by omega)
        rw [Nat.add_mul, Nat.one_mul] at h3
        omega
      rw [List.getElem?_append_left hlt, ih]
def mapsL (F : FuncD) (L : List (List Nat)) : List (List Nat) := (List.range F.ins.length).map fun y => if alB F y then L.getD y [] else []
theorem mapsL_at {F : FuncD} {L : List (List Nat)} {y : Nat} (hy : y < F.ins.length) : (mapsL F L).getD y [] = if alB F y then L.getD y [] else [] := by
  unfold mapsL
  rw [List.getD_eq_getElem?_getD, List.getElem?_map, List.getElem?_range hy]; rfl
/-- What Maps answers, as rows of words. -/
def MapsY (F : FuncD) (w : World) (e : Ending) (B : World) : Prop :=
  ∃ v L, e = .returned (.tuple #[v, .int .i64 0]) ∧ Rr B v (mapsL F L) ∧ OkL (grOf F) L ∧ (∀ y, y < F.ins.length → ∀ q, hasW (L.getD y []) q = true ↔ Lv (grOf F) y q) ∧ Below w.heap.size w B
theorem maps_rd (r : RestV) (F : FuncD) (iv rv : Value) (hs : soundB F = true) (hnn : F.ins.length ≤ 1048576) (w : World) (hU : Us w) (hI : Ii w iv F.ins) (hR : Rg w rv F.regions) :
    Calls Tryd.prog 34 #[funcV r F iv rv] w (MapsY F w) := by
  refine (maps_yes r F iv rv hs hnn w hU hI hR).mono fun e B h => ?_
  obtain ⟨bO, bA, L, rfl, h1, h2, h3, hbo, hba, hok, hlv, hb⟩ := h
  have hss : (grOf F).s ≤ 1024 := by
    have := (soundF hs).r1
    show (F.regs.toNat + 63) / 64 ≤ 1024
    omega
  have hlen : (mapsL F L).length = F.ins.length := by simp [mapsL]
  have hL : ∀ y, y < F.ins.length → (L.getD y []).length = (grOf F).s := fun y hy => (hok.row y hy).len
  refine ⟨_, L, rfl, ⟨_, F.ins.length, by rw [hlen], by omega, fun y hy => ?_⟩, hok, hlv, hb⟩
  rw [hlen] at hy
  rw [mapsL_at hy]
  refine ⟨bO, 0, _, rfl, hbo.cell (i := 0 + y) (by rw [Nat.zero_add]; exact outC_at hy), ?_⟩
  cases ha : alB F y with
  | false =>
    rw [if_neg (by simp), if_neg (by simp)]
    exact ⟨.inl ⟨none, rfl, rfl⟩, fun i => by simp⟩
  | true =>
    rw [if_pos ⟨hy, rfl⟩, if_pos rfl]
    have hrl := hL y hy
    refine ⟨.inr ⟨bA, cntA F y * (grOf F).s, (grOf F).s, by rw [ints_len, hrl], by rw [ints_len, hrl]; exact Nat.le_refl _, by rw [ints_len, hrl]; omega, fun i hi => ?_⟩, (hok.row y hy).lt⟩
    rw [ints_len, hrl] at hi
    rw [ints_getD]
    refine hba.cell ?_
    rw [List.getElem?_map, flatA_at hL F.ins.length (Nat.le_refl _) y hy ha i hi]
    rfl
set_option maxRecDepth 100000 in
set_option maxHeartbeats 2000000 in
theorem maps_no (r : RestV) (F : FuncD) (iv rv : Value) (hs : soundB F = false) (hnn : F.ins.length ≤ 1048576) (w : World) (hU : Us w) (hI : Ii w iv F.ins) (hR : Rg w rv F.regions) :
    Calls Tryd.prog 34 #[funcV r F iv rv] w fun e B => e = .returned (.tuple #[.slice none 0 0, .int .i64 3]) ∧ Below w.heap.size w B := by
  have HLN := live_no r F iv rv hs hnn
  obtain ⟨p, c, rfl, _, _, hpi⟩ := ii_form hI
  obtain ⟨p2, c2, rfl, _, _, _⟩ := rg_form hR
  unfold funcV at HLN ⊢
  replace HLN := Lib.hid HLN
  have HB0 := Lib.hid (show Below w.heap.size w (w.alloc (.cells #[.string r.name, .int .i64 F.params, .int .i64 F.regs, .int .i64 r.frees, .bool r.gen, .int .i64 r.bound, .slice r.np r.nn r.nc, .slice r.cp r.cn r.cc, .slice p F.ins.length c, .slice p2 F.regions.length c2] 27)) from by ((repeat' (first | with_reducible assumption | with_reducible exact Below.refl _ _ | with_reducible refine Below.drew ?_ | with_reducible refine Below.alloc ?_ (by first | omega | (simp; omega) | (simp; done) | fail) _ | with_reducible refine Below.setCell ?_ (by first | omega | (simp; omega) | (simp; done) | fail) _ | fail)); (first | done | fail)))
  have HL := Lib.hid (HLN.out _ (hU.keep HB0.out) (hI.keep HB0.out) (hR.keep HB0.out))
  clear hU hI hR hpi hs
  go_enter Tryd.func34, Tryd.ntmps34
  go_wp2_with (first
    | (go_at_call 23; (with_reducible refine HL.out.mono ?_); rintro e wB ⟨rfl, hb⟩; have HB := Lib.hid (HB0.out.trans (hb.mono (by simp))); clear hb)
    | fail)
  go_ret2
  exact ⟨rfl, HB.out⟩
end Go.Proofs.YtnniohimbmnapaaDoor
