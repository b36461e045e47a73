/- Layer 3: every Parse: the law. -/
import Derived.Test.YtbhaigbgembcaaaGreatDoorPPiK
namespace Go.Proofs.YtbhaigbgembcaaaGreatDoor
open Go Go.ChangeShapes Go.WideShapes Go.RowKit
set_option linter.unusedVariables false
set_option linter.unusedSimpArgs false
set_option maxRecDepth 100000 in
theorem law_parses {hiT loT T : Nat → Nat} (hf : TBF hiT loT T) (tv : TypeId) (yv : Value) (s : ByteArray) (w : World) (ht : PT w) (hp : P10R w) (hT : PFT hiT loT T tv yv w w.heap.size) :
    Calls Tryz.prog 3 #[.string s] w fun e w' => e = .returned (.bool true) ∧ Below w.heap.size w w' := by
  obtain ⟨b, x, hbx⟩ := parse_both hf tv yv s
  have HC := Lib.hid (fun W (h : Below w.heap.size w W) => hbx W ((hT.keep h).up h.size))
  unfold RPa DPa at HC
  have HT := Lib.hid ht
  have HP := Lib.hid hp
  have HX := Lib.hid (Below.refl w.heap.size w)
  clear ht hp hT hbx
  go_enter Tryz.func3, Tryz.ntmps3
  go_wp2_with (first
    | (go_at_call 4; (with_reducible refine (HC.out _ HX.out).1.mono ?_); rintro e w1 ⟨rfl, hx⟩; replace HX := Lib.hid (HX.out.trans (hx.mono HX.out.size)); clear hx)
    | (go_at_call 5; (with_reducible refine (HC.out _ HX.out).2.mono ?_); rintro e w2 ⟨rfl, hx⟩; replace HX := Lib.hid (HX.out.trans (hx.mono HX.out.size)); clear hx)
    | (go_at_call 6; (with_reducible refine (known03 _ (HT.out.keep HX.out) (HP.out.keep HX.out)).mono ?_); rintro e w3 ⟨rfl, hx⟩; replace HX := Lib.hid (HX.out.trans (hx.mono HX.out.size)); clear hx)
    | fail)
  go_ret
  exact ⟨rfl, HX.out⟩
end Go.Proofs.YtbhaigbgembcaaaGreatDoor
