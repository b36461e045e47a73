/- Rows of words read as registers: the document's Is, roots.Has. -/
import Derived.Test.YtilonacjmihglaaPArena
import Derived.Test.YtilonacjmihglaaPOwn
import Derived.Laws.BitsAllLaws
import Derived.Maps.AppendAt
import Derived.Laws.AppendOwnNone
import Derived.RegionTactic
import Derived.Laws.Rows
import Derived.WalkKit
import Derived.Lib.Hide
import Derived.WalkSpells
import Derived.OwnWalk
import Derived.RangeFuncIn
import Derived.RangeFuncLeaves
import Derived.RangeFuncRecord
import Derived.RangeFuncSeq
import Derived.Below
import Derived.Laws.AppendOwn
import Derived.StillTailTactics
import Derived.TacticsIn
import Derived.OrdersIn
import Derived.OrdersHeld
import Derived.Deep.RegionHeld3
import Derived.OwnWalkIn
import Derived.TacticsInMore
import Derived.LoopIn
import Derived.RangeFuncNested
import Derived.Shelf.Abstract
import Derived.Laws.CopyOwn
import Derived.IntWalk
import Derived.Laws.Entries
import Derived.BigRegion
import Derived.Deep.LoopGhost
import Derived.Deep.CutRange
import Derived.Deep.OwnRows
namespace Go.Proofs.Ytilonacjmihglaa
open Go Go.ChangeShapes Go.WideShapes Go.ChangeAt Go.RowKit
set_option linter.unusedVariables false
set_option linter.unusedSimpArgs false
def hasW (row : List Nat) (r : Nat) : Bool := (row.getD (r / 64) 0).testBit (r % 64)
theorem has_out {row : List Nat} {q : Nat} (h : 64 * row.length ≤ q) : hasW row q = false := by
  unfold hasW
  rw [List.getD_eq_getElem?_getD, List.getElem?_eq_none (by omega)]
  simp
def ints (l : List Nat) : List Int := l.map fun (x : Nat) => (x : Int)
theorem ints_len (l : List Nat) : (ints l).length = l.length := by simp [ints]
theorem ints_getD (l : List Nat) (i : Nat) : (ints l).getD i 0 = ((l.getD i 0 : Nat) : Int) := by
  unfold ints
  rw [List.getD_eq_getElem?_getD, List.getElem?_map, List.getD_eq_getElem?_getD]
  cases l[i]? <;> simp
/-- The slice value v reads as these words. -/
def Rw (w : World) (v : Value) (ws : List Nat) : Prop := Rd w v (ints ws) ∧ ∀ i, ws.getD i 0 < 18446744073709551616
theorem rw_form {w : World} {v : Value} {ws : List Nat} (h : Rw w v ws) : ∃ p c, v = .slice p ws.length c ∧ ws.length ≤ c ∧ ws.length ≤ 17592186043904 ∧
    ∀ i, i < ws.length → ∃ b off, p = some ⟨b, off, none⟩ ∧ w.cell? ⟨b, off + i, none⟩ = some (.int .u64 ((ws.getD i 0 : Nat) : Int)) := by
  rcases h.1 with ⟨p, rfl, e⟩ | ⟨b, off, c, rfl, h1, h2, h3⟩
  · have hl : ws.length = 0 := by rw [← ints_len, e]; rfl
    exact ⟨p, 0, by rw [hl], by omega, by omega, fun i hi => by omega⟩
  · rw [ints_len] at h1 h2 h3 ⊢
    exact ⟨_, c, rfl, h1, h2, fun i hi => ⟨b, off, rfl, by rw [h3 i hi, ints_getD]⟩⟩
/-- Is register r in the row? -/
def isB (ws : List Nat) (r : Int) : Bool := decide (0 ≤ r) && hasW ws r.toNat
theorem isB_neg {ws : List Nat} {r : Int} (h : r < 0) : isB ws r = false := by unfold isB; simp; omega
theorem isB_nat (ws : List Nat) (q : Nat) : isB ws q = hasW ws q := by unfold isB; simp
theorem and_one {x : Nat} (hx : x < 18446744073709551616) : bits .and .u64 (x : Int) 1 = ((x % 2 : Nat) : Int) := by
  have h := u64_and_nat x 1 hx (by decide)
  have e : (((1 : Nat) : Int)) = 1 := rfl
  rw [e] at h
  rw [h, Nat.and_one_is_mod]
theorem shr_int (a k : Nat) : ((a : Int) / 2 ^ k) = ((a / 2 ^ k : Nat) : Int) := by push_cast; rfl
set_option maxHeartbeats 2000000 in
theorem is_any (v : Value) (ws : List Nat) (r : Int) (w : World) (h : Rw w v ws) (hr : r < 9223372036854775808) (hr0 : -9223372036854775808 ≤ r) :
    Calls Try.prog 37 #[v, .int .i64 r] w fun e w' => e = .returned (.bool (isB ws r)) ∧ w = w' := by
  have hw := h.2
  obtain ⟨p, c, rfl, hc, hm, hp⟩ := rw_form h
  have HP := Lib.hid hp
  have HW := Lib.hid hw
  clear hp h hw
  by_cases h0 : r < 0
  · have HN := Lib.hid (isB_neg (ws := ws) h0)
    have h0' : ¬ 0 ≤ r := by omega
    go_enter Try.func37, Try.ntmps37
    go_wp2
    go_ret
    exact ⟨ret_b HN.out.symm, rfl⟩
  · obtain ⟨q, rfl⟩ := Int.eq_ofNat_of_zero_le (by omega : 0 ≤ r)
    have hq0 : (0 : Int) ≤ (q : Int) := by omega
    by_cases hlt : q / 64 < ws.length
    · obtain ⟨b, off, rfl, hcell⟩ := HP.out _ hlt
      obtain ⟨d, hd⟩ : ∃ d, ws.getD (q / 64) 0 = d := ⟨_, rfl⟩
      have hdw := HW.out (q / 64)
      rw [hd] at hcell hdw
      have hkm : q % 64 < 64 := Nat.mod_lt _ (by decide)
      have HE := Lib.hid (show isB ws q = d.testBit (q % 64) by rw [isB_nat]; unfold hasW; rw [hd])
      obtain ⟨qd, hqd⟩ : ∃ qd, q / 64 = qd := ⟨_, rfl⟩
      obtain ⟨qm, hqm⟩ : ∃ qm, q % 64 = qm := ⟨_, rfl⟩
      rw [hqd] at hcell hlt
      rw [hqm] at HE hkm
      have e1 : (q : Int) / 64 = (qd : Int) := by omega
      have e2 : (q : Int) % 64 = (qm : Int) := by omega
      obtain ⟨x, hx⟩ : ∃ x, d / 2 ^ qm = x := ⟨_, rfl⟩
      have hxl : x < 18446744073709551616 := by rw [← hx]; exact Nat.lt_of_le_of_lt (Nat.div_le_self _ _) hdw
      have e3 : (d : Int) / 2 ^ qm = (x : Int) := by rw [shr_int, hx]
      have HX := Lib.hid (show d.testBit qm = decide (x % 2 = 1) by rw [Nat.testBit_eq_decide_div_mod_eq, hx])
      have e4 := and_one hxl
      clear hqd hqm hx hd
      have HY := Lib.hid (show isB ws q = ((x : Int) % 2 == 1) by rw [HE.out, HX.out, Bool.eq_iff_iff]; simp; omega)
      go_enter Try.func37, Try.ntmps37
      go_wp2_with fail
      go_ret
      exact ⟨ret_b HY.out.symm, rfl⟩
    · have HY := Lib.hid (show isB ws q = false by rw [isB_nat]; exact has_out (by omega))
      obtain ⟨qd, hqd⟩ : ∃ qd, q / 64 = qd := ⟨_, rfl⟩
      have e1 : (q : Int) / 64 = (qd : Int) := by omega
      rw [hqd] at hlt
      clear hqd
      go_enter Try.func37, Try.ntmps37
      go_wp2_with fail
      go_ret
      exact ⟨ret_b HY.out.symm, rfl⟩
set_option maxHeartbeats 2000000 in
theorem hasr_any (v : Value) (ws : List Nat) (r : Int) (w : World) (h : Rw w v ws) (hr : r < 9223372036854775808) (hr0 : -9223372036854775808 ≤ r) :
    Calls Try.prog 39 #[v, .int .i64 r] w fun e w' => e = .returned (.bool (isB ws r)) ∧ w = w' := by
  have hw := h.2
  obtain ⟨p, c, rfl, hc, hm, hp⟩ := rw_form h
  have HP := Lib.hid hp
  have HW := Lib.hid hw
  clear hp h hw
  by_cases h0 : r < 0
  · have HN := Lib.hid (isB_neg (ws := ws) h0)
    have h0' : ¬ 0 ≤ r := by omega
    go_enter Try.func39, Try.ntmps39
    go_wp2
    go_ret
    exact ⟨ret_b HN.out.symm, rfl⟩
  · obtain ⟨q, rfl⟩ := Int.eq_ofNat_of_zero_le (by omega : 0 ≤ r)
    have hq0 : (0 : Int) ≤ (q : Int) := by omega
    by_cases hlt : q / 64 < ws.length
    · obtain ⟨b, off, rfl, hcell⟩ := HP.out _ hlt
      obtain ⟨d, hd⟩ : ∃ d, ws.getD (q / 64) 0 = d := ⟨_, rfl⟩
      have hdw := HW.out (q / 64)
      rw [hd] at hcell hdw
      have hkm : q % 64 < 64 := Nat.mod_lt _ (by decide)
      have HE := Lib.hid (show isB ws q = d.testBit (q % 64) by rw [isB_nat]; unfold hasW; rw [hd])
      obtain ⟨qd, hqd⟩ : ∃ qd, q / 64 = qd := ⟨_, rfl⟩
      obtain ⟨qm, hqm⟩ : ∃ qm, q % 64 = qm := ⟨_, rfl⟩
      rw [hqd] at hcell hlt
      rw [hqm] at HE hkm
      have e1 : (q : Int) / 64 = (qd : Int) := by omega
      have e2 : (q : Int) % 64 = (qm : Int) := by omega
      obtain ⟨x, hx⟩ : ∃ x, d / 2 ^ qm = x := ⟨_, rfl⟩
      have hxl : x < 18446744073709551616 := by rw [← hx]; exact Nat.lt_of_le_of_lt (Nat.div_le_self _ _) hdw
      have e3 : (d : Int) / 2 ^ qm = (x : Int) := by rw [shr_int, hx]
      have HX := Lib.hid (show d.testBit qm = decide (x % 2 = 1) by rw [Nat.testBit_eq_decide_div_mod_eq, hx])
      have e4 := and_one hxl
      clear hqd hqm hx hd
      have HY := Lib.hid (show isB ws q = ((x : Int) % 2 == 1) by rw [HE.out, HX.out, Bool.eq_iff_iff]; simp; omega)
      go_enter Try.func39, Try.ntmps39
      go_wp2_with fail
      go_ret
      exact ⟨ret_b HY.out.symm, rfl⟩
    · have HY := Lib.hid (show isB ws q = false by rw [isB_nat]; exact has_out (by omega))
      obtain ⟨qd, hqd⟩ : ∃ qd, q / 64 = qd := ⟨_, rfl⟩
      have e1 : (q : Int) / 64 = (qd : Int) := by omega
      rw [hqd] at hlt
      clear hqd
      go_enter Try.func39, Try.ntmps39
      go_wp2_with fail
      go_ret
      exact ⟨ret_b HY.out.symm, rfl⟩
end Go.Proofs.Ytilonacjmihglaa
