/- Layer 12: a law's known. -/
import Derived.Test.YtnniohimbmnapaaDoorK12P
import Derived.Test.YtnniohimbmnapaaDoorK10
import Derived.Test.YtnniohimbmnapaaDoorMapsR
namespace Go.Proofs.YtnniohimbmnapaaDoor
open Go Go.ChangeShapes Go.WideShapes Go.RowKit
set_option linter.unusedVariables false
set_option linter.unusedSimpArgs false
def ins12 : Array Value := #[.int .i64 3, .int .i64 0, .int .i64 0, .int .i64 0, .int .i64 0, .int .i64 0, .slice none 0 0, .int .i64 4, .int .i64 1, .int .i64 0, .int .i64 0, .int .i64 0, .int .i64 0, .slice none 0 0, .int .i64 41, .int .i64 0, .int .i64 1, .int .i64 0, .int .i64 0, .int .i64 0, .slice none 0 0]
theorem ii12 {W : World} {b : Nat} (hc : ∀ o v, ins12[o]? = some v → W.cell? ⟨b, o, none⟩ = some v) : Ii W (.slice (some ⟨b, 0, none⟩) 3 3) F12.ins :=
  .inr ⟨b, 0, 3, rfl, by decide, by decide, fun i hi => ⟨.slice none 0 0, by
    match i, hi with
    | 0, _ => exact ⟨hc _ _ rfl, hc _ _ rfl, hc _ _ rfl, hc _ _ rfl, hc _ _ rfl, hc _ _ rfl, hc _ _ rfl, .inl ⟨none, rfl, rfl⟩, by decide⟩
    | 1, _ => exact ⟨hc _ _ rfl, hc _ _ rfl, hc _ _ rfl, hc _ _ rfl, hc _ _ rfl, hc _ _ rfl, hc _ _ rfl, .inl ⟨none, rfl, rfl⟩, by decide⟩
    | 2, _ => exact ⟨hc _ _ rfl, hc _ _ rfl, hc _ _ rfl, hc _ _ rfl, hc _ _ rfl, hc _ _ rfl, hc _ _ rfl, .inl ⟨none, rfl, rfl⟩, by decide⟩⟩⟩
def rest12 (b : Nat) : RestV := ⟨⟨#[]⟩, 0, false, 0, none, 0, 0, some ⟨b, 0, none⟩, 1, 1⟩
theorem al12 : ∀ y, y < 3 → alB F12 y = true := by decide
theorem ones_zero (w : World) : Calls Tryd.prog 55 #[.int .u64 0] w fun e w' => e = .returned (.int .i64 0) ∧ w = w' := by
  go_enter Tryd.func55, Tryd.ntmps55
  go_wp2
  go_ret
  exact ⟨by kernel_rfl, rfl⟩
set_option maxHeartbeats 1000000 in
theorem count_zero (v : Value) (w : World) (h : Rw w v [0]) : Calls Tryd.prog 37 #[v] w fun e w' => e = .returned (.int .i64 0) ∧ w = w' := by
  obtain ⟨p, c, rfl, hc, hm, hp⟩ := rw_form h
  obtain ⟨b, off, rfl, hcell⟩ := hp 0 (by decide)
  have hcell : w.cell? ⟨b, off + 0, none⟩ = some (.int .u64 0) := hcell
  rw [Nat.add_zero] at hcell
  clear hp h
  have HO := Lib.hid ones_zero
  show Calls Tryd.prog 37 #[.slice (some ⟨b, off, none⟩) 1 c] w _
  go_enter Tryd.func37, Tryd.ntmps37
  go_wp2_with fail
  go_loop [3, 8] (fun s3 s8 => (s3 = .int .i64 0 ∧ s8 = .int .i64 0) ∨ (s3 = .int .i64 0 ∧ s8 = .int .i64 1)) (fun _ s8 => 1 - (intOf s8).toNat)
  case atStart => exact .inl ⟨rfl, rfl⟩
  case round =>
    rcases hrel with ⟨rfl, rfl⟩ | ⟨rfl, rfl⟩
    · go_wp2_with (first | (go_at_call 55; (with_reducible refine (HO.out _).mono ?_); rintro e w9 ⟨rfl, rfl⟩) | fail)
      go_round
      case rel => exact .inr ⟨rfl, rfl⟩
      case measure => simp [intOf]
    · go_wp2_with fail
      go_ret
      exact ⟨rfl, rfl⟩
set_option maxRecDepth 100000 in
set_option maxHeartbeats 4000000 in
theorem known12 (w : World) (hU : Us w) : Calls Tryd.prog 33 #[] w fun e w' => e = .returned (.bool true) ∧ Below w.heap.size w w' := by
  have HU := Lib.hid hU
  clear hU
  go_enter Tryd.func33, Tryd.ntmps33
  go_wp2_with fail
  generalize hW : World.alloc (World.alloc (World.alloc w _) _) _ = W
  have hbw : Below w.heap.size w W := by rw [← hW]; ((repeat' (first | with_reducible assumption | with_reducible exact Below.refl _ _ | with_reducible refine Below.drew ?_ | with_reducible refine Below.alloc ?_ (by first | omega | (simp; omega) | (simp; done) | fail) _ | with_reducible refine Below.setCell ?_ (by first | omega | (simp; omega) | (simp; done) | fail) _ | fail)); (first | done | fail))
  have hI : Ii W (.slice (some ⟨w.heap.size + 1, 0, none⟩) 3 3) F12.ins := ii12 fun o v h => by rw [← hW]; exact alloc_cell (cell_at (by simp) h) _
  have HBW := Lib.hid hbw
  clear hW
  refine (maps_rd (rest12 w.heap.size) F12 _ _ sound12 (by decide) W (HU.out.keep hbw) hI (.inl ⟨none, rfl, rfl⟩)).mono ?_
  rintro e B ⟨vM, L, rfl, hrr, hok, hlv, hb⟩
  have hLe := known_rows12 hok hlv
  subst hLe
  obtain ⟨p, c, rfl, _, hrow⟩ := hrr
  obtain ⟨b, off, u0, rfl, c0, w0⟩ := hrow 0 (by decide)
  obtain ⟨b', off', u1, e1, c1, w1⟩ := hrow 1 (by decide)
  simp only [Option.some.injEq, Addr.mk.injEq, and_true] at e1
  obtain ⟨rfl, rfl⟩ := e1
  obtain ⟨b', off', u2, e2, c2, w2⟩ := hrow 2 (by decide)
  simp only [Option.some.injEq, Addr.mk.injEq, and_true] at e2
  obtain ⟨rfl, rfl⟩ := e2
  have w0 : Rw B u0 [0] := w0
  have w1 : Rw B u1 [1] := w1
  have w2 : Rw B u2 [2] := w2
  rw [Nat.add_zero] at c0
  obtain ⟨p0, q0, rfl, _, _, _⟩ := rw_form w0
  replace w0 : Rw B (.slice p0 1 q0) [0] := w0
  replace c0 : B.cell? ⟨b, off, none⟩ = some (.slice p0 1 q0) := c0
  obtain ⟨p1, q1, rfl, _, _, _⟩ := rw_form w1
  replace w1 : Rw B (.slice p1 1 q1) [1] := w1
  replace c1 : B.cell? ⟨b, off + 1, none⟩ = some (.slice p1 1 q1) := c1
  obtain ⟨p2, q2, rfl, _, _, _⟩ := rw_form w2
  replace w2 : Rw B (.slice p2 1 q2) [2] := w2
  replace c2 : B.cell? ⟨b, off + 2, none⟩ = some (.slice p2 1 q2) := c2
  have hl3 : (mapsL F12 [[0], [1], [2]]).length = 3 := rfl
  rw [hl3]
  have HC := Lib.hid (count_zero _ B w0)
  have H1 := Lib.hid (hasr_any _ [1] 0 B w1 (by decide) (by decide))
  have H2 := Lib.hid (hasr_any _ [1] 1 B w1 (by decide) (by decide))
  have H3 := Lib.hid (hasr_any _ [2] 1 B w2 (by decide) (by decide))
  rw [show isB [1] 0 = true by decide] at H1
  rw [show isB [1] 1 = false by decide] at H2
  rw [show isB [2] 1 = true by decide] at H3
  have HB := Lib.hid (hbw.trans (hb.mono hbw.size))
  clear hrow hok hlv hb hbw hI w0 w1 w2 hl3
  go_wp2_with (first
    | (go_at_call 37; (with_reducible refine HC.out.mono ?_); rintro e w9 ⟨rfl, rfl⟩)
    | (go_at_call 36; (with_reducible refine H1.out.mono ?_); rintro e w9 ⟨rfl, rfl⟩)
    | (go_at_call 36; (with_reducible refine H2.out.mono ?_); rintro e w9 ⟨rfl, rfl⟩)
    | (go_at_call 36; (with_reducible refine H3.out.mono ?_); rintro e w9 ⟨rfl, rfl⟩)
    | fail)
  go_ret
  exact ⟨rfl, HB.out⟩
end Go.Proofs.YtnniohimbmnapaaDoor
