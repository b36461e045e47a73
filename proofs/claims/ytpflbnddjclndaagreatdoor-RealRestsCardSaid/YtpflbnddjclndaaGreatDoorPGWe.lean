/- The builder of strings, as layer 2 uses it: writing a text to a builder of the call's own. Layer 2: the text of a small number. Layer 2: whole.Of: the number of an int. Layer 2: known(): the example that each statement asks first: it answers true. -/
import Derived.Test.YtpflbnddjclndaaGreatDoorShelf
import Derived.Test.YtpflbnddjclndaaGreatDoorPOwn
import Derived.Lib.AppendStr
import Derived.Laws.Externs
import Derived.ProofKit
import Derived.OpenShut
import Derived.OwnWalk
import Derived.Outline
import Derived.Lib.Hide
import Derived.WalkLawsBesides
import Derived.Lib.ItoaNum
import Derived.Test.YtpflbnddjclndaaGreatDoorPGWc
import Derived.Test.YtpflbnddjclndaaGreatDoorPGWd
namespace Go.Proofs.YtpflbnddjclndaaGreatDoor
section
open Go.ChangeShapes Go.WideShapes Go.ChangeAt Go.RowKit
set_option linter.unusedVariables false
set_option linter.unusedSimpArgs false
abbrev BE : TypeId := 5
theorem builderByte : (Tryz.prog.info? BE).map (fun i => (i.zero, i.size, i.bytes)) = some (some (.int .u8 0), 1, 1) := by kernel_rfl
theorem owned_form {w : World} {B : Nat} {e : TypeId} {v : Value} {n : Nat} {xs : List Value} (h : w.ownsRow B e 1 v n xs) : ∃ p m c, v = .slice p m c := by
  rcases h.2 with ⟨hv, _⟩ | ⟨g, cap, cur, hv, _⟩
  · exact ⟨_, _, _, hv⟩
  · exact ⟨_, _, _, hv⟩
end
section
open Go.ChangeShapes Go.WideShapes Go.ChangeAt Go.RowKit
set_option linter.unusedVariables false
set_option linter.unusedSimpArgs false
def TextPost (W : World) (s : ByteArray) (e : Ending) (w' : World) : Prop := e = .returned (.string s) ∧ Below W.heap.size W w'
end
section
open Go.ChangeShapes Go.WideShapes Go.ChangeAt Go.RowKit
set_option linter.unusedVariables false
set_option linter.unusedSimpArgs false
theorem two_limbs (a : Int) (h : 0 ≤ a) (h' : a ≤ 18446744073709551615) : Dig B18 [a % 1000000000000000000, a / 1000000000000000000] ∧ val B18 [a % 1000000000000000000, a / 1000000000000000000] = a := by
  refine ⟨Dig.cons (by rw [B18]; omega) (Dig.cons (by rw [B18]; omega) (Dig.nil (by decide))), ?_⟩
  simp only [val, B18]; omega
theorem LU.two (w : World) (a b : Int) : LU (w.alloc (.cells #[.int .u64 a, .int .u64 b] 22)) w.heap.size [a, b] := heap_alloc_new w _
theorem of_core (neg : Bool) (a : Int) (h0 : 0 ≤ a) (h1 : a ≤ 18446744073709551615) (w : World) (k : Nat) (hk : CutAt [a % 1000000000000000000, a / 1000000000000000000] k) {g B0 : Nat} (hL : LU w g [a % 1000000000000000000, a / 1000000000000000000]) (hB : B0 ≤ g) :
    ∃ neg' p ws', madeV neg (some ⟨g, 0, none⟩) k = .agg #[.bool neg', .slice p k k] ∧ (∀ w' : World, w'.heap[g]? = w.heap[g]? → MU w' B0 (.slice p k k) ws') ∧ Sgn B18 neg' ws' (sg neg a) ∧ ws'.length = k := by
  obtain ⟨hd, hv⟩ := two_limbs a h0 h1
  have := made_sgn neg hk hd hL hB
  rw [hv] at this
  exact this
set_option maxRecDepth 100000 in
set_option maxHeartbeats 800000 in
theorem of_pos (n : Int) (w : World) (h0 : 0 ≤ n) (h1 : n ≤ 9223372036854775807) :
    Calls Tryz.prog 22 #[.int .i64 n] w (BigPost w w.heap.size n) := by
  have hn : ¬ n < 0 := by omega
  go_enter Tryz.func22, Tryz.ntmps22
  go_wp2_with fail
  generalize hw2 : World.alloc (World.alloc w _) _ = w2
  have hL : LU w2 (w.heap.size + 1) [n % 1000000000000000000, n / 1000000000000000000] := by
    rw [← hw2]
    have := LU.two (w.alloc (.cells #[.bool false, .slice none 0 0] 30)) (n % 1000000000000000000) (n / 1000000000000000000)
    simpa using this
  have HL := Lib.hid hL
  have HB2 := Lib.hid (show Below w.heap.size w w2 by rw [← hw2]; exact ((Below.refl _ _).alloc (Nat.le_refl _) _).alloc (by simp) _)
  have q0 : w2.cell? ⟨w.heap.size, 0, none⟩ = some (.bool false) := by rw [← hw2]; exact alloc_cell (by simp) _
  have q1 : w2.cell? ⟨w.heap.size, 1, none⟩ = some (.slice none 0 0) := by rw [← hw2]; exact alloc_cell (by simp) _
  have f0 : w2.frozen? ⟨w.heap.size, 0, none⟩ = false := by rw [← hw2]; exact alloc_frozen (by simp) (by simp) _
  have f1 : w2.frozen? ⟨w.heap.size, 1, none⟩ = false := by rw [← hw2]; exact alloc_frozen (by simp) (by simp) _
  have hlt : w.heap.size < w2.heap.size := by rw [← hw2]; simp; omega
  clear hw2 hL
  refine (made_any false _ 2 [n % 1000000000000000000, n / 1000000000000000000] w2 ((HL.out.mine (Nat.zero_le _)).rd (by simp))).mono ?_
  rintro e w3 ⟨k, hk, rfl, hb3⟩
  obtain ⟨neg', p, ws', hv, hM, hS, hlk⟩ := of_core (B0 := w.heap.size + 1) false n (by omega) (by omega) w3 k hk (HL.out.keep hb3) (Nat.le_refl _)
  rw [hv]
  have HM := Lib.hid (hM w3 rfl)
  have HS := Lib.hid hS
  have HB3 := Lib.hid (HB2.out.trans (hb3.mono HB2.out.size))
  have m0 := below_cell hb3 q0
  have m1 := below_cell hb3 q1
  have mf0 := (hb3.frozen (p := ⟨w.heap.size, 0, none⟩) hlt).trans f0
  have mf1 := (hb3.frozen (p := ⟨w.heap.size, 1, none⟩) hlt).trans f1
  clear hv hM hS hlk hb3 hk q0 q1 f0 f1
  go_wp2_with fail
  have zz := two_setW (x0 := .bool neg') (x1 := .slice p k k) m0 m1
  exact bodyPost_ret (v := .agg #[.bool neg', .slice p k k]) (by simp [results, Tryz.results22, go_sem, zz.1, zz.2]) rfl ⟨neg', _, ws', rfl, (HM.out.set2 (by omega) _ _).low (by omega), HS.out, (HB3.out.setCell (by simp) _).setCell (by simp) _⟩
set_option maxRecDepth 100000 in
set_option maxHeartbeats 800000 in
theorem of_neg (n : Int) (w : World) (h0 : n < 0) (h1 : -9223372036854775808 ≤ n) :
    Calls Tryz.prog 22 #[.int .i64 n] w (BigPost w w.heap.size n) := by
  obtain ⟨m, hm, hm0, hm1, hnm⟩ : ∃ m : Int, IntKind.u64.wrap (-IntKind.u64.wrap n) = m ∧ 0 ≤ m ∧ m ≤ 9223372036854775808 ∧ n = -m := by
    refine ⟨-n, ?_, by omega, by omega, by omega⟩
    rw [u64w, u64w]; omega
  have HN := Lib.hid hnm
  clear hnm
  go_enter Tryz.func22, Tryz.ntmps22
  go_wp2_with fail
  clear hm
  generalize hw2 : World.alloc (World.alloc w _) _ = w2
  have hL : LU w2 (w.heap.size + 1) [m % 1000000000000000000, m / 1000000000000000000] := by
    rw [← hw2]
    have := LU.two (w.alloc (.cells #[.bool false, .slice none 0 0] 30)) (m % 1000000000000000000) (m / 1000000000000000000)
    simpa using this
  have HL := Lib.hid hL
  have HB2 := Lib.hid (show Below w.heap.size w w2 by rw [← hw2]; exact ((Below.refl _ _).alloc (Nat.le_refl _) _).alloc (by simp) _)
  have q0 : w2.cell? ⟨w.heap.size, 0, none⟩ = some (.bool false) := by rw [← hw2]; exact alloc_cell (by simp) _
  have q1 : w2.cell? ⟨w.heap.size, 1, none⟩ = some (.slice none 0 0) := by rw [← hw2]; exact alloc_cell (by simp) _
  have f0 : w2.frozen? ⟨w.heap.size, 0, none⟩ = false := by rw [← hw2]; exact alloc_frozen (by simp) (by simp) _
  have f1 : w2.frozen? ⟨w.heap.size, 1, none⟩ = false := by rw [← hw2]; exact alloc_frozen (by simp) (by simp) _
  have hlt : w.heap.size < w2.heap.size := by rw [← hw2]; simp; omega
  clear hw2 hL
  refine (made_any true _ 2 [m % 1000000000000000000, m / 1000000000000000000] w2 ((HL.out.mine (Nat.zero_le _)).rd (by simp))).mono ?_
  rintro e w3 ⟨k, hk, rfl, hb3⟩
  obtain ⟨neg', p, ws', hv, hM, hS, hlk⟩ := of_core (B0 := w.heap.size + 1) true m (by omega) (by omega) w3 k hk (HL.out.keep hb3) (Nat.le_refl _)
  rw [hv]
  have HM := Lib.hid (hM w3 rfl)
  have HS := Lib.hid hS
  have HB3 := Lib.hid (HB2.out.trans (hb3.mono HB2.out.size))
  have m0 := below_cell hb3 q0
  have m1 := below_cell hb3 q1
  have mf0 := (hb3.frozen (p := ⟨w.heap.size, 0, none⟩) hlt).trans f0
  have mf1 := (hb3.frozen (p := ⟨w.heap.size, 1, none⟩) hlt).trans f1
  clear hv hM hS hlk hb3 hk q0 q1 f0 f1
  go_wp2_with fail
  have zz := two_setW (x0 := .bool neg') (x1 := .slice p k k) m0 m1
  exact bodyPost_ret (v := .agg #[.bool neg', .slice p k k]) (by simp [results, Tryz.results22, go_sem, zz.1, zz.2]) rfl ⟨neg', _, ws', rfl, (HM.out.set2 (by omega) _ _).low (by omega), by rw [HN.out]; exact HS.out, (HB3.out.setCell (by simp) _).setCell (by simp) _⟩
theorem of_int (n : Int) (w : World) (h0 : -9223372036854775808 ≤ n) (h1 : n ≤ 9223372036854775807) :
    Calls Tryz.prog 22 #[.int .i64 n] w (BigPost w w.heap.size n) := by
  by_cases h : n < 0
  · exact of_neg n w h h0
  · exact of_pos n w (by omega) h1
end
section
open Go.ChangeShapes Go.WideShapes Go.ChangeAt Go.RowKit
set_option linter.unusedVariables false
set_option linter.unusedSimpArgs false
theorem sgn4 : Sgn B18 true [4] (-4) := ⟨canon_d ⟨by decide, by decide⟩, fun _ => by simp, by simp [sg, val]⟩
theorem sgn1 : Sgn B18 false [1] 1 := ⟨canon_d ⟨by decide, by decide⟩, fun h => (by cases h), by simp [sg, val]⟩
end
end Go.Proofs.YtpflbnddjclndaaGreatDoor
