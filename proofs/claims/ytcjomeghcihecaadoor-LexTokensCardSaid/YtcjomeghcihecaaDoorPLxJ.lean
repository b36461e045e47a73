/- Layer 4: brackets are counted; which byte stands somewhere. -/
import Derived.Test.YtcjomeghcihecaaDoorPLxI
import Derived.Test.YtcjomeghcihecaaDoorShelfL
namespace Go.Proofs.YtcjomeghcihecaaDoor
open Go Go.ChangeShapes Go.WideShapes Go.ChangeAt Go.RowKit Go.PlainAid Go.Maps
set_option linter.unusedVariables false
set_option linter.unusedSimpArgs false
/-- Does one of these bytes stand there? -/
def hasI (s : ByteArray) (i : Nat) (bs : Bs) : Bool := decide (i < s.size) && decide (0 ≤ Lib.indexByte bs ((bt s i).toNat.toUInt8))
set_option maxRecDepth 100000 in
set_option maxHeartbeats 800000 in
theorem has_any {w : World} {x : Nat} {s : ByteArray} (c0 : w.cell? ⟨x, 0, none⟩ = some (.string s)) (hs : s.size ≤ 20000) (i : Nat) (hi : i ≤ 100000) (bs : ByteArray) :
    Calls Tryd.prog 50 #[.pointer (some ⟨x, 0, none⟩), .int .i64 i, .string bs] w fun e w' => e = .returned (.bool (hasI s i bs.data.toList)) ∧ w' = w := by
  have hb := get_bt s
  by_cases hlt : i < s.size
  · have hlz : (i : Int) < (s.size : Int) := by omega
    have hv : hasI s i bs.data.toList = decide (0 ≤ Lib.indexByte bs.data.toList ((bt s i).toNat.toUInt8)) := by unfold hasI; rw [decide_eq_true hlt, Bool.true_and]
    rw [hv]
    have HI := Lib.hid (fun wx => Tryd.strings_IndexByte bs (bt s i) wx)
    generalize Lib.indexByte bs.data.toList ((bt s i).toNat.toUInt8) = r at HI
    clear hv
    go_enter Tryd.func50, Tryd.ntmps50
    go_wp2_with (first | (go_at_call 53; (with_reducible refine (HI.out _).mono ?_); rintro e w1 ⟨rfl, rfl⟩) | fail)
    refine bodyPost_ret (v := .bool (decide (0 ≤ r))) (by simp [results, Tryd.results50, go_sem]) rfl ⟨rfl, rfl⟩
  · have hlz : ¬ (i : Int) < (s.size : Int) := by omega
    have hv : hasI s i bs.data.toList = false := by unfold hasI; rw [decide_eq_false hlt, Bool.false_and]
    rw [hv]
    clear hv
    go_enter Tryd.func50, Tryd.ntmps50
    go_wp2_with fail
    go_ret
    exact ⟨rfl, rfl⟩
theorem LX.setD {D : DataW Unit} {w : World} {B x mb kb : Nat} {σ : LxD} (h : LX D w B x mb kb σ) (a : Int) : LX D (w.setCell ⟨x, 3, none⟩ (.int .i64 a)) B x mb kb { σ with d := a } ∧ Below B w (w.setCell ⟨x, 3, none⟩ (.int .i64 a)) := by
  obtain ⟨ov, tv, h⟩ := h
  exact ⟨⟨ov, tv, h.setD a⟩, (Below.refl _ _).setCell h.bx _⟩
theorem LX.setLn {D : DataW Unit} {w : World} {B x mb kb : Nat} {σ : LxD} (h : LX D w B x mb kb σ) (a : Nat) : LX D (w.setCell ⟨x, 2, none⟩ (.int .i64 a)) B x mb kb { σ with ln := a } ∧ Below B w (w.setCell ⟨x, 2, none⟩ (.int .i64 a)) := by
  obtain ⟨ov, tv, h⟩ := h
  exact ⟨⟨ov, tv, h.setLn a⟩, (Below.refl _ _).setCell h.bx _⟩
set_option maxRecDepth 100000 in
set_option maxHeartbeats 1600000 in
theorem bracket_any {D : DataW Unit} {w : World} {B x mb kb : Nat} {σ : LxD} (h : LX D w B x mb kb σ) (hd : 0 ≤ σ.d ∧ σ.d ≤ 1000000) (t : Bs) :
    Calls Tryd.prog 43 #[.pointer (some ⟨x, 0, none⟩), .string (bsOf t)] w fun e w' => e = .returned (.tuple #[]) ∧ LX D w' B x mb kb { σ with d := depD σ.d 9 t } ∧ Below B w w' := by
  obtain ⟨s, a, ln, d, op, out⟩ := σ
  simp only at h hd ⊢
  have H := Lib.hid h
  have c3 := h.choose_spec.choose_spec.c.c3
  have f3 := h.choose_spec.choose_spec.c.f 3
  simp only at c3
  have hdd : depD d 9 t = if isOpenB t then d + 1 else if isShutB t then max 0 (d - 1) else d := rfl
  obtain ⟨dd, hD⟩ : ∃ dd, depD d 9 t = dd := ⟨_, rfl⟩
  rw [hD]
  rw [hD] at hdd
  have HDD := Lib.hid hdd
  have hd0 := hd.1
  have hd1 := hd.2
  clear h hd hdd hD
  have e1 : IntKind.i64.wrap (d + 1) = d + 1 := i64_in (by omega) (by omega)
  have e2 : IntKind.i64.wrap (d - 1) = d - 1 := i64_in (by omega) (by omega)
  have htl : (bsOf t).toList = t := by unfold bsOf; simp
  go_enter Tryd.func43, Tryd.ntmps43
  go_wp2_with fail
  all_goals refine bodyPost_end (v := .tuple #[]) (by simp [results, Tryd.results43, go_sem]) rfl ?_
  all_goals clear e1 e2 htl c3 f3
  all_goals first
    | (have hq : dd = d + 1 := by
         rw [HDD.out]; simp_all [isOpenB, isShutB]
         done
       rw [hq]; exact ⟨rfl, H.out.setD _⟩)
    | (have hq : dd = max 0 (d - 1) := by
         rw [HDD.out]; simp_all [isOpenB, isShutB]
         done
       rw [hq]; exact ⟨rfl, H.out.setD _⟩)
    | (have hq : dd = d := by
         rw [HDD.out]; simp_all [isOpenB, isShutB]
         done
       rw [hq]; exact ⟨rfl, H.out, Below.refl _ _⟩)
    | fail
end Go.Proofs.YtcjomeghcihecaaDoor
