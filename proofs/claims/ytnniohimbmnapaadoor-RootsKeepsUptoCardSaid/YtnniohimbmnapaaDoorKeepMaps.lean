/- Layer 12: what Maps answers, as rows in ranges of their own. -/
import Derived.Test.YtnniohimbmnapaaDoorMapsR
import Derived.Test.YtnniohimbmnapaaDoorKeepLive
namespace Go.Proofs.YtnniohimbmnapaaDoor
open Go Go.ChangeShapes Go.WideShapes Go.RowKit
set_option linter.unusedVariables false
set_option linter.unusedSimpArgs false
def QM (F : FuncD) (M : List (List Nat)) : Prop := ∃ L, QL F L ∧ M = if soundB F then mapsL F L else []
theorem QM.uniq {F : FuncD} {L L' : List (List Nat)} (h : QM F L) (h' : QM F L') : L = L' := by
  obtain ⟨A, h1, rfl⟩ := h
  obtain ⟨B, h2, rfl⟩ := h'
  rw [h1.uniq h2]
theorem cnt_step {F : FuncD} {y k : Nat} (hy : y < k) (ha : alB F y = true) : cntA F y + 1 ≤ cntA F k := by
  have h1 : cntA F (y + 1) ≤ cntA F k := cntA_mono F (by omega)
  have h2 : cntA F (y + 1) = cntA F y + 1 := by show cntA F y + (if alB F y then 1 else 0) = _; rw [ha]; rfl
  omega
theorem maps_keep (r : RestV) (F : FuncD) (iv rv : Value) (w : World) (hU : Us w) (hI : Ii w iv F.ins) (hR : Rg w rv F.regions) (hnn : F.ins.length ≤ 1048576) :
    Calls Tryd.prog 34 #[funcV r F iv rv] w (KeepA (QM F) (ecL F) w) := by
  by_cases hs : soundB F = true
  · refine (maps_yes r F iv rv hs hnn w hU hI hR).mono fun e B h => ?_
    obtain ⟨bO, bA, L, rfl, h1, h2, h3, hbo, hba, hok, hlv, hb⟩ := h
    have hss : (grOf F).s ≤ 1024 := by
      have := (soundF hs).r1
      show (F.regs.toNat + 63) / 64 ≤ 1024
      omega
    have hlen : (mapsL F L).length = F.ins.length := by simp [mapsL]
    have hL : ∀ y, y < F.ins.length → (L.getD y []).length = (grOf F).s := fun y hy => (hok.row y hy).len
    have hcl : (outC F bA (grOf F).s F.ins.length F.ins.length).length = F.ins.length := outC_len _ _ _ _ _
    have hat : ∀ i, i < F.ins.length → (outC F bA (grOf F).s F.ins.length F.ins.length).getD i vz = if alB F i = true then .slice (some ⟨bA, cntA F i * (grOf F).s, none⟩) (grOf F).s (grOf F).s else .slice none 0 0 := fun i hi => by
      rw [List.getD_eq_getElem?_getD, outC_at hi]
      simp only [hi, true_and, Option.getD_some]
    have hfl := flatA_len hL F.ins.length (Nat.le_refl _)
    rw [show ecL F = 0 from if_pos hs]
    refine ⟨_, _, _, outC F bA (grOf F).s F.ins.length F.ins.length, mapsL F L, rfl, hcl, hnn, src_of_blk hbo hcl, fun u hu => ?_, ⟨fun i hi => ?_, fun i j b o hi hj h1 h2 => ?_⟩, ⟨_, F.ins.length, by rw [hlen], by omega, fun y hy => ?_⟩, ⟨L, (by unfold QL; rw [if_pos hs]; exact ⟨hok, hlv⟩), by rw [if_pos hs]⟩, hb⟩
    · obtain ⟨i, hi, rfl⟩ := List.mem_iff_getElem.1 hu
      have := hat i (by omega)
      rw [List.getD_eq_getElem?_getD, List.getElem?_eq_getElem hi] at this
      simp only [Option.getD_some] at this
      rw [this]
      split <;> rfl
    · rw [hcl] at hi
      rw [hat i hi]
      by_cases ha : alB F i = true
      · rw [if_pos ha]
        refine .inr ⟨bA, cntA F i * (grOf F).s, _, _, rfl, Nat.le_refl _, h2, fun j hj => hba.wr ?_, by omega⟩
        rw [List.length_map, hfl]
        have := Nat.mul_le_mul_right (grOf F).s (cnt_step hi ha)
        rw [Nat.add_mul, Nat.one_mul] at this
        omega
      · rw [if_neg ha]; exact .inl ⟨none, rfl⟩
    · rw [hcl] at hi hj
      rw [hat i hi] at h1
      rw [hat j hj] at h2
      obtain ⟨o1, n1, c1, e1, f1, f2⟩ := h1
      obtain ⟨o2, n2, c2, e2, f3, f4⟩ := h2
      by_cases ha : alB F i = true
      · by_cases hb' : alB F j = true
        · rw [if_pos ha] at e1
          rw [if_pos hb'] at e2
          simp only [Value.slice.injEq, Option.some.injEq, Addr.mk.injEq, and_true] at e1 e2
          obtain ⟨⟨_, rfl⟩, _, rfl⟩ := e1
          obtain ⟨⟨_, rfl⟩, _, rfl⟩ := e2
          rcases Nat.lt_trichotomy i j with e | e | e
          · have := Nat.mul_le_mul_right (grOf F).s (cnt_step e ha)
            rw [Nat.add_mul, Nat.one_mul] at this
            omega
          · exact e
          · have := Nat.mul_le_mul_right (grOf F).s (cnt_step e hb')
            rw [Nat.add_mul, Nat.one_mul] at this
            omega
        · rw [if_neg hb'] at e2; simp at e2
      · rw [if_neg ha] at e1; simp at e1
    · rw [hlen] at hy
      rw [mapsL_at hy]
      refine ⟨bO, 0, _, rfl, hbo.cell (i := 0 + y) (by rw [Nat.zero_add]; exact outC_at hy), ?_⟩
      cases ha : alB F y with
      | false =>
        rw [if_neg (by simp), if_neg (by simp)]
        exact ⟨.inl ⟨none, rfl, rfl⟩, fun i => by simp⟩
      | true =>
        rw [if_pos ⟨hy, rfl⟩, if_pos rfl]
        have hrl := hL y hy
        refine ⟨.inr ⟨bA, cntA F y * (grOf F).s, (grOf F).s, by rw [ints_len, hrl], by rw [ints_len, hrl]; exact Nat.le_refl _, by rw [ints_len, hrl]; omega, fun i hi => ?_⟩, (hok.row y hy).lt⟩
        rw [ints_len, hrl] at hi
        rw [ints_getD]
        refine hba.cell ?_
        rw [List.getElem?_map, flatA_at hL F.ins.length (Nat.le_refl _) y hy ha i hi]
        rfl
  · have hs' : soundB F = false := by simpa using hs
    refine (maps_no r F iv rv hs' hnn w hU hI hR).mono fun e B h => ?_
    obtain ⟨rfl, hb⟩ := h
    rw [show ecL F = 3 from if_neg hs]
    exact keep_none _ _ _ _ ⟨[], (by unfold QL; rw [if_neg hs]), by rw [if_neg hs]⟩ hb
end Go.Proofs.YtnniohimbmnapaaDoor
