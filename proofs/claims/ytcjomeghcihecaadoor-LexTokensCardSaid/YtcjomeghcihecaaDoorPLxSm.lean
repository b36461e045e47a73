/- Layer 4: the document's Same: the same tokens; what Lex answers is the call's own. -/
import Derived.Test.YtcjomeghcihecaaDoorPLxB4
import Derived.Test.YtcjomeghcihecaaDoorPLxAk
namespace Go.Proofs.YtcjomeghcihecaaDoor
open Go Go.ChangeShapes Go.WideShapes Go.ChangeAt Go.RowKit Go.PlainAid Go.Maps
set_option linter.unusedVariables false
set_option linter.unusedSimpArgs false
set_option maxRecDepth 100000 in
set_option maxHeartbeats 2000000 in
theorem same_any (u u' : Value) (ts : List Tk) (w : World) (h1 : Rt w u ts) (h2 : Rt w u' ts) (hle : ts.length ≤ 9223372036854775807) :
    Calls Tryd.prog 12 #[u, u'] w fun e w' => e = .returned (.bool true) ∧ Below w.heap.size w w' := by
  obtain ⟨p, c, rfl, hc, hp⟩ := rt_form h1
  obtain ⟨p', c', rfl, hc', hp'⟩ := rt_form h2
  have HP := Lib.hid hp
  have HP' := Lib.hid hp'
  clear hp hp' h1 h2
  go_enter Tryd.func12, Tryd.ntmps12
  go_wp2_with fail
  go_loopw [5] (fun s wr => ∃ k q : Nat, s = .int .i64 k ∧ k ≤ ts.length ∧ wr = w.drewN q) (fun s _ => ts.length - (intOf s).toNat)
  case atStart => exact ⟨0, 0, by go_num, Nat.zero_le _, rfl⟩
  case round =>
    obtain ⟨k, q, rfl, hk, rfl⟩ := hrel
    by_cases hlt : k < ts.length
    · obtain ⟨b, off, rfl, e1⟩ := HP.out (by omega)
      obtain ⟨b', off', rfl, e2⟩ := HP'.out (by omega)
      obtain ⟨a0, a1, a2⟩ := e1 k hlt
      obtain ⟨b0, b1, b2⟩ := e2 k hlt
      obtain ⟨kd, hkd⟩ : ∃ x, (ts.getD k tkZ).kind = x := ⟨_, rfl⟩
      obtain ⟨ld, hld⟩ : ∃ x, (ts.getD k tkZ).line = x := ⟨_, rfl⟩
      obtain ⟨S, hS⟩ : ∃ x, bsOf (ts.getD k tkZ).text = x := ⟨_, rfl⟩
      rw [hkd] at a0 b0
      rw [hld] at a1 b1
      rw [hS] at a2 b2
      clear hkd hld hS e1 e2
      have hlz : (k : Int) < (ts.length : Int) := by omega
      have w1 : IntKind.i64.wrap ((k : Int) + 1) = (k : Int) + 1 := i64_in (by omega) (by omega)
      go_wp2_with fail
      go_quiet (fail)
      go_wp2_with fail
      go_roundw
      case rel => exact ⟨k + 1, _, by go_num, by omega, rfl⟩
      case measure => simp [intOf]; omega
    · have hlz : ¬ (k : Int) < (ts.length : Int) := by omega
      go_wp2_with fail
      go_ret
      exact ⟨rfl, below_drewN _ _⟩
/-- The tokens of a source; none, if it has an error. -/
def tksD (l : Bs) : List Tk := match lexD l with
  | .error _ => []
  | .ok ts => ts
theorem tksD_len (l : Bs) : (tksD l).length ≤ 80001 := by
  unfold tksD
  cases h : lexD l with
  | error e => simp
  | ok ts => exact lexD_len h
theorem lex_own (v : Value) (l : Bs) (w : World) (hr : R8 w v l) (htab : Lib.TabIs Tryd.prog w "strings.asciiSpace" .u8 Lib.asciiSpaceTab) :
    Calls Tryd.prog 9 #[v] w fun e w' => ∃ v' la ea, e = .returned (.tuple #[v', .int .i64 la, .int .i64 ea]) ∧ w'.ownsRow w.heap.size 33 3 v' (tksD l).length (flatT (tksD l)) ∧ Below w.heap.size w w' := by
  refine (lex_any v l w hr htab).mono fun e w' h => ?_
  unfold tksD
  cases hx : lexD l with
  | error q =>
    rw [hx] at h
    exact ⟨_, _, _, h.1, World.ownsRow_nil _ _ _ _, h.2⟩
  | ok ts =>
    rw [hx] at h
    obtain ⟨v', h1, h2, h3⟩ := h
    exact ⟨_, _, _, h1, h2, h3⟩
theorem Rt.grown {w w' : World} {v : Value} {ts : List Tk} {row : Option Nat} (h : Rt w v ts) (hg : w.grownBy w' row) (hb : ∀ g, v.ownBlock = some g → g < w.heap.size ∧ some g ≠ row) : Rt w' v ts := by
  rcases h with h | ⟨b, off, c, rfl, h1, h2⟩
  · exact .inl h
  · obtain ⟨hb1, hb2⟩ := hb b rfl
    have e := hg.block b hb1 hb2
    exact .inr ⟨b, off, c, rfl, h1, fun i hi => ⟨(World.cell?_of_block (a := ⟨b, off + i * 3, none⟩) e).trans (h2 i hi).1, (World.cell?_of_block (a := ⟨b, off + i * 3 + 1, none⟩) e).trans (h2 i hi).2.1, (World.cell?_of_block (a := ⟨b, off + i * 3 + 2, none⟩) e).trans (h2 i hi).2.2⟩⟩
theorem own_set3 {w : World} {B g n cap : Nat} {T : TypeId} {xs : List Value} (h : w.ownsRow B T 3 (.slice (some ⟨g, 0, none⟩) n cap) n xs) (j : Nat) (x y z : Value) :
    ∃ xs', (((w.setCell ⟨g, j, none⟩ x).setCell ⟨g, j + 1, none⟩ y).setCell ⟨g, j + 2, none⟩ z).ownsRow B T 3 (.slice (some ⟨g, 0, none⟩) n cap) n xs' ∧ w.grownBy (((w.setCell ⟨g, j, none⟩ x).setCell ⟨g, j + 1, none⟩ y).setCell ⟨g, j + 2, none⟩ z) (some g) := by
  obtain ⟨h1, g1⟩ := h.stored j x
  obtain ⟨h2, g2⟩ := h1.stored (j + 1) y
  obtain ⟨h3, g3⟩ := h2.stored (j + 2) z
  refine ⟨_, h3, ⟨g3.os.trans (g2.os.trans g1.os), g3.tape.trans (g2.tape.trans g1.tape), g3.output.trans (g2.output.trans g1.output), Nat.le_trans g1.size (Nat.le_trans g2.size g3.size), fun k hk hne => ?_⟩⟩
  exact (g3.block k (Nat.lt_of_lt_of_le hk (Nat.le_trans g1.size g2.size)) hne).trans ((g2.block k (Nat.lt_of_lt_of_le hk g1.size) hne).trans (g1.block k hk hne))
theorem grown_trans {a b c : World} {row : Option Nat} (h1 : a.grownBy b row) (h2 : b.grownBy c row) : a.grownBy c row :=
  ⟨h2.os.trans h1.os, h2.tape.trans h1.tape, h2.output.trans h1.output, Nat.le_trans h1.size h2.size, fun k hk hne => (h2.block k (Nat.lt_of_lt_of_le hk h1.size) hne).trans (h1.block k hk hne)⟩
theorem grown_drewN (w : World) (q : Nat) (row : Option Nat) : w.grownBy (w.drewN q) row := by
  have h := below_drewN w q
  exact ⟨h.os, h.tape, h.output, h.size, fun k hk _ => h.block k hk⟩
theorem grown_below {B : Nat} {a b : World} {row : Option Nat} (h : a.grownBy b row) (hr : ∀ g, row = some g → B ≤ g) (hB : B ≤ a.heap.size) : Below B a b :=
  (Below.refl B a).grown h hB hr
end Go.Proofs.YtcjomeghcihecaaDoor
