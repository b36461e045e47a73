/- Layer 2: whole.fit: a result, if it isn't too great. -/
import Derived.Test.YticebchmafipiaaDoorWBig
namespace Go.Proofs.YticebchmafipiaaDoor
open Go.ChangeShapes Go.WideShapes Go.ChangeAt Go.RowKit
set_option linter.unusedVariables false
set_option linter.unusedSimpArgs false
def ResPost (W : World) (B0 : Nat) (z : Int) (e : Ending) (w' : World) : Prop :=
  ∃ neg u ws er, e = .returned (.tuple #[.agg #[.bool neg, u], .int .i64 er]) ∧ MU w' B0 u ws ∧ Below W.heap.size W w' ∧
    ((Small z ∧ er = 0 ∧ Sgn B18 neg ws z) ∨ (¬ Small z ∧ er = 7 ∧ neg = false ∧ ws = []))
theorem MU.form {w : World} {B : Nat} {u : Value} {ws : List Int} (h : MU w B u ws) : ∃ p c, u = .slice p ws.length c := by
  rcases h with ⟨rfl, rfl⟩ | ⟨g, c, cur, h0, _⟩
  · exact ⟨_, _, rfl⟩
  · exact ⟨_, _, h0⟩
theorem alloc_frozen {W : World} {a : Addr} (h : a.block < W.heap.size) (hf : W.frozen? a = false) (o : Obj) : (W.alloc o).frozen? a = false :=
  (((Below.refl W.heap.size W).alloc (Nat.le_refl _) o).frozen (p := a) h).trans hf
set_option maxRecDepth 100000 in
set_option maxHeartbeats 1000000 in
theorem fit_any (neg : Bool) (g B0 : Nat) (ws : List Int) (w : World) (hL : LU w g ws) (hd : Dig B18 ws) (hB : B0 ≤ g) (hl : ws.length ≤ 17592186043904) :
    Calls Tryd.prog 35 #[.bool neg, .slice (some ⟨g, 0, none⟩) ws.length ws.length] w (ResPost w B0 (sg neg (val B18 ws))) := by
  have HL := Lib.hid hL
  have HD := Lib.hid hd
  clear hL hd
  go_enter Tryd.func35, Tryd.ntmps35
  go_wp2_with fail
  generalize hw2 : World.alloc w _ = w2
  have HB2 := Lib.hid (show Below w.heap.size w w2 by rw [← hw2]; exact (Below.refl _ _).alloc (Nat.le_refl _) _)
  have hc0 : w2.cell? ⟨w.heap.size, 0, none⟩ = some (.bool false) := by rw [← hw2]; simp
  have hc1 : w2.cell? ⟨w.heap.size, 1, none⟩ = some (.slice none 0 0) := by rw [← hw2]; simp
  have hf0 : w2.frozen? ⟨w.heap.size, 0, none⟩ = false := by rw [← hw2]; simp
  have hf1 : w2.frozen? ⟨w.heap.size, 1, none⟩ = false := by rw [← hw2]; simp
  have HL2 := Lib.hid (HL.out.keep HB2.out)
  have hsz : w2.heap.size = w.heap.size + 1 := by rw [← hw2]; simp
  have HSZ := Lib.hid hsz
  clear hw2 hsz
  refine (made_any neg _ ws.length ws w2 (HL2.out.mine (Nat.zero_le _) |>.rd hl)).mono ?_
  rintro e w3 ⟨k, hk, rfl, hb3⟩
  obtain ⟨neg', p, ws', hv, hM, hS, hlk⟩ := made_sgn neg hk HD.out (HL2.out.keep hb3) hB
  rw [hv]
  have hgl : w.heap.size ≠ g := fun e => by have := HL.out.lt; omega
  have HM := Lib.hid hM
  have HS := Lib.hid hS
  have HK := Lib.hid hlk
  have HB3 := Lib.hid (HB2.out.trans (hb3.mono HB2.out.size))
  have hd0 := below_cell hb3 hc0
  have hd1 := below_cell hb3 hc1
  have hg0 := (hb3.frozen (p := ⟨w.heap.size, 0, none⟩) (by have := HSZ.out; show w.heap.size < _; omega)).trans hf0
  have hg1 := (hb3.frozen (p := ⟨w.heap.size, 1, none⟩) (by have := HSZ.out; show w.heap.size < _; omega)).trans hf1
  have HS3 := Lib.hid (show w.heap.size < w3.heap.size by have := hb3.size; have := HSZ.out; omega)
  have a0 := fun o => alloc_cell hd0 o
  have a1 := fun o => alloc_cell hd1 o
  have f0 := fun o => alloc_frozen (a := ⟨w.heap.size, 0, none⟩) HS3.out hg0 o
  have f1 := fun o => alloc_frozen (a := ⟨w.heap.size, 1, none⟩) HS3.out hg1 o
  have HB4 := Lib.hid (fun o => HB3.out.alloc (Nat.le_of_lt HS3.out) o)
  have hle : g < w3.heap.size := by have := HL.out.lt; have := HS3.out; omega
  have HG := Lib.hid (fun o x0 x1 => show (((w3.alloc o).setCell ⟨w.heap.size, 0, none⟩ x0).setCell ⟨w.heap.size, 1, none⟩ x1).heap[g]? = w3.heap[g]? from
    ((Below.heap_setCell _ _ _ _ (Ne.symm hgl)).trans (Below.heap_setCell _ _ _ _ (Ne.symm hgl))).trans (Below.heap_alloc _ _ _ hle))
  clear hv hM hS hb3 hc0 hc1 hf0 hf1 hk hd0 hd1 hg0 hg1 hgl hle hlk
  by_cases h30 : k ≤ 30
  · have h30z : ¬ (30 : Int) < (k : Int) := by omega
    have HH := Lib.hid (show Small (sg neg (val B18 ws)) from HS.out.small.1 (by rw [HK.out]; exact h30))
    go_wp2_with fail
    have z20 := fun o => (two_setW (x0 := .bool neg') (x1 := .slice p k k) (a0 o) (a1 o)).1
    have z21 := fun o => (two_setW (x0 := .bool neg') (x1 := .slice p k k) (a0 o) (a1 o)).2
    refine bodyPost_ret (v := .tuple #[.agg #[.bool neg', .slice p k k], .int .i64 0]) (by simp [results, Tryd.results35, go_sem, z20, z21]) rfl ⟨neg', _, ws', 0, rfl, HM.out _ (HG.out _ _ _), ((HB4.out _).setCell (by simp) _).setCell (by simp) _, .inl ⟨HH.out, rfl, HS.out⟩⟩
  · have h30z : (30 : Int) < (k : Int) := by omega
    have HH := Lib.hid (show ¬ Small (sg neg (val B18 ws)) from fun h => h30 (by rw [← HK.out]; exact HS.out.small.2 h))
    go_wp2_with fail
    have z20 := fun o => (two_setW (x0 := .bool false) (x1 := .slice none 0 0) (a0 o) (a1 o)).1
    have z21 := fun o => (two_setW (x0 := .bool false) (x1 := .slice none 0 0) (a0 o) (a1 o)).2
    refine bodyPost_ret (v := .tuple #[.agg #[.bool false, .slice none 0 0], .int .i64 7]) (by simp [results, Tryd.results35, go_sem, z20, z21]) rfl ⟨false, _, [], 7, rfl, Mine.nil _ _, ((HB4.out _).setCell (by simp) _).setCell (by simp) _, .inr ⟨HH.out, rfl, rfl, rfl⟩⟩
end Go.Proofs.YticebchmafipiaaDoor
