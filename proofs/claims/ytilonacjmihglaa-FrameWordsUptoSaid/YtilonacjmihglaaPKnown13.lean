/- The chapter's example, which each statement of layer 13 asks first: it answers true. -/
import Derived.Test.YtilonacjmihglaaPGAlloc
import Derived.Test.YtilonacjmihglaaPNew
import Derived.Test.YtilonacjmihglaaPGCheck
import Derived.Deep.RegionHeld3
namespace Go.Proofs.Ytilonacjmihglaa
open Go.ChangeShapes Go.WideShapes Go.ChangeAt Go.RowKit
set_option linter.unusedVariables false
set_option linter.unusedSimpArgs false
theorem AL.ma {w : World} {B g n c : Nat} {top : Int} {G : Nat → Int} {wr : World} (h : AL w B g n c top G wr) (hn : n ≤ c) (hc : n ≤ 17592186043904) : MA wr B g n c top G :=
  ⟨h.box0, h.box1, h.fr, h.row, hn, hc, h.ne⟩
theorem But2.trans {B g : Nat} {a b c : World} (h : But2 B g a b) (k : But2 B g b c) : But2 B g a c :=
  ⟨k.os.trans h.os, k.tape.trans h.tape, k.output.trans h.output, Nat.le_trans h.size k.size, fun i hi h1 h2 => (k.block i (Nat.lt_of_lt_of_le hi h.size) h1 h2).trans (h.block i hi h1 h2)⟩
theorem But2.below {B g X : Nat} {a b : World} (h : But2 B g a b) (hX : X ≤ a.heap.size) (h1 : X ≤ B) (h2 : X ≤ g) : Below X a b :=
  ⟨h.os, h.tape, h.output, h.size, fun k hk => h.block k (by omega) (by omega) (by omega)⟩
theorem rd_row {w : World} {g n c : Nat} {F : Nat → Int} {ws : List Int} (h : Row w g n c F) (hn : ws.length = n) (hc : n ≤ c) (hm : n ≤ 17592186043904) (hF : ∀ i, i < n → F i = ws.getD i 0) : Rd w (.slice (some ⟨g, 0, none⟩) n c) ws :=
  .inr ⟨g, 0, c, by rw [hn], by omega, by omega, fun i hi => by rw [Nat.zero_add, h.cell hc (by omega), hF i (by omega)]⟩
def F1 : Nat → Int := fillTo (fun _ => 0) 1 (5 + 2 * 256 + (2 + 2 + 1) * 4294967296) 2 3
def F2 : Nat → Int := fillTo F1 6 (1 + 2 * 256 + (2 + 2 + 0) * 4294967296) 2 2
def ws2 : List Int := [0, 21474836997, 0, 2, 2, 0, 17179869697, 0, 2, 2]
theorem F2_ws : ∀ i, i < 10 → F2 i = ws2.getD i 0 := by decide
theorem ws2_ok : checkE ws2 10 = 0 := by decide +kernel
theorem ws2_fit : Fit ws2 := by
  intro i
  match i with
  | 0 | 1 | 2 | 3 | 4 | 5 | 6 | 7 | 8 | 9 => simp [ws2]
  | i + 10 => simp [ws2]
end Go.Proofs.Ytilonacjmihglaa
