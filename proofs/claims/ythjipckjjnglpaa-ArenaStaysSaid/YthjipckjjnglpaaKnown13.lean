/- The chapter's example, which each statement of layer 13 asks first: it answers true. -/
import Derived.Test.YthjipckjjnglpaaAllocGood
import Derived.Test.YthjipckjjnglpaaNew
import Derived.Test.YthjipckjjnglpaaCheck
import Derived.Deep.RegionHeld3
namespace Go.Proofs.Ythjipckjjnglpaa
open Go.ChangeShapes Go.WideShapes Go.ChangeAt Go.RowKit
set_option linter.unusedVariables false
set_option linter.unusedSimpArgs false
theorem AL.ma {w : World} {B g n c : Nat} {top : Int} {G : Nat → Int} {wr : World} (h : AL w B g n c top G wr) (hn : n ≤ c) (hc : n ≤ 17592186043904) : MA wr B g n c top G :=
  ⟨h.box0, h.box1, h.fr, h.row, hn, hc, h.ne⟩
theorem But2.trans {B g : Nat} {a b c : World} (h : But2 B g a b) (k : But2 B g b c) : But2 B g a c :=
  ⟨k.os.trans h.os, k.tape.trans h.tape, k.output.trans h.output, Nat.le_trans h.size k.size, fun i hi h1 h2 => (k.block i (Nat.lt_of_lt_of_le hi h.size) h1 h2).trans (h.block i hi h1 h2)⟩
theorem But2.below {B g X : Nat} {a b : World} (h : But2 B g a b) (hX : X ≤ a.heap.size) (h1 : X ≤ B) (h2 : X ≤ g) : Below X a b :=
  ⟨h.os, h.tape, h.output, h.size, fun k hk => h.block k (by omega) (by omega) (by omega)⟩
theorem rd_row {w : World} {g n c : Nat} {F : Nat → Int} {ws : List Int} (h : Row w g n c F) (hn : ws.length = n) (hc : n ≤ c) (hm : n ≤ 17592186043904) (hF : ∀ i, i < n → F i = ws.getD i 0) : Rd w (.slice (some ⟨g, 0, none⟩) n c) ws :=
  .inr ⟨g, 0, c, by rw [hn], by omega, by omega, fun i hi => by rw [Nat.zero_add, h.cell hc (by omega), hF i (by omega)]⟩
def F1 : Nat → Int := fillTo (fun _ => 0) 1 (5 + 2 * 256 + (2 + 2 + 1) * 4294967296) 2 3
def F2 : Nat → Int := fillTo F1 6 (1 + 2 * 256 + (2 + 2 + 0) * 4294967296) 2 2
def ws2 : List Int := [0, 21474836997, 0, 2, 2, 0, 17179869697, 0, 2, 2]
theorem F2_ws : ∀ i, i < 10 → F2 i = ws2.getD i 0 := by decide
theorem ws2_ok : checkE ws2 10 = 0 := by decide +kernel
theorem ws2_fit : Fit ws2 := by
  intro i
  match i with
  | 0 | 1 | 2 | 3 | 4 | 5 | 6 | 7 | 8 | 9 => simp [ws2]
  | i + 10 => simp [ws2]
set_option maxRecDepth 100000 in
theorem known (w : World)  :
    Calls Try.prog 13 #[] w fun e w' => e = .returned (.bool true) ∧ Below w.heap.size w w' := by
  go_enter Try.func13, Try.ntmps13
  go_wp2_with fail
  refine (new_good 10 (by omega) _).mono ?_
  rintro e w1 ⟨g, rfl, hg, hrow, hb⟩
  have hgl := hrow.lt
  have hm0 : MA (w1.alloc (Obj.cells #[Value.slice (some ⟨g, 0, none⟩) 10 10, Value.int .i64 1] 24)) w1.heap.size g 10 10 1 (fun _ => 0) := ⟨by simp, by simp, by simp, ⟨_, hrow.alloc _, fun _ _ => rfl⟩, by omega, by omega, by omega⟩
  have hb0 : Below w.heap.size w (w1.alloc (Obj.cells #[Value.slice (some ⟨g, 0, none⟩) 10 10, Value.int .i64 1] 24)) := hb.alloc hb.size _
  have hX := hb.size
  have HX := Lib.hid hX
  have HG := Lib.hid hg
  have HGL := Lib.hid hgl
  clear hrow hb hX hg hgl
  go_wp2_with fail
  refine (alloc_good w1.heap.size g 10 10 1 (fun _ => 0) 5 2 1 _ hm0 (by omega) (by omega)).mono ?_
  rintro e w2 ⟨rfl, hA⟩
  have hA1 : AL _ w1.heap.size g 10 10 6 F1 w2 := hA
  have hb1 := hb0.trans (hA1.but.below (X := w.heap.size) hb0.size HX.out HG.out)
  have hm1 := hA1.ma (by omega) (by omega)
  clear hA hA1 hm0 hb0
  go_wp2_with fail
  refine (alloc_full w1.heap.size g 10 10 6 F1 1 3 0 _ hm1 (by omega) (by omega)).mono ?_
  rintro e w3 ⟨rfl, q, rfl⟩
  have hm2 : MA (w2.drewN q) w1.heap.size g 10 10 6 F1 := ⟨hm1.box0, hm1.box1, hm1.fr, hm1.row, hm1.le, hm1.max, hm1.ne⟩
  go_wp2_with fail
  refine (alloc_good w1.heap.size g 10 10 6 F1 1 2 0 _ hm2 (by omega) (by omega)).mono ?_
  rintro e w3 ⟨rfl, hA⟩
  have hA2 : AL _ w1.heap.size g 10 10 10 F2 w3 := hA
  have hb2 := (below_drewN hb1 q).trans (hA2.but.below (X := w.heap.size) hb1.size HX.out HG.out)
  have hx0 := hA2.box0
  have hx1 := hA2.box1
  have hr1 : w3.cell? ⟨g, 1, none⟩ = some (.int .u64 21474836997) := hA2.row.cell hA2.le (i := 1) (by omega)
  have hr3 : w3.cell? ⟨g, 3, none⟩ = some (.int .u64 2) := hA2.row.cell hA2.le (i := 3) (by omega)
  have HRD := Lib.hid (rd_row (n := 10) hA2.row rfl (by omega) (by omega) F2_ws)
  clear hA hm1 hm2 hb1 hA2
  go_wp2_with fail
  refine (check_any _ ws2 10 _ HRD.out ws2_fit (by omega)).mono ?_
  rintro e w4 ⟨rfl, hb3⟩
  rw [ws2_ok]
  go_wp2_with fail
  go_ret
  exact ⟨rfl, hb2.trans (hb3.mono hb2.size)⟩
end Go.Proofs.Ythjipckjjnglpaa
