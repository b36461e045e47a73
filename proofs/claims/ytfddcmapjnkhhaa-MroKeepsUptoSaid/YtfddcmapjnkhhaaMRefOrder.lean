/- Layer 19: the document's Order; SameInts of two lists that read alike. -/
import Derived.Test.YtfddcmapjnkhhaaMSmall
namespace Go.Proofs.Ytfddcmapjnkhhaa
open Go.ChangeShapes Go.WideShapes Go.RowKit
set_option linter.unusedVariables false
set_option linter.unusedSimpArgs false
noncomputable def ordE (bs : List (List Int)) (c : Int) : Int :=
  if c < 0 ∨ (bs.length : Int) ≤ c then 1 else if 200 < bs.length then 2 else if fitB bs = false then 3 else match ord bs c with
    | none => 13
    | some _ => 0
noncomputable def ordL (bs : List (List Int)) (c : Int) : List Int := if ordE bs c = 0 then (ord bs c).getD [] else []
theorem ordE1 {bs : List (List Int)} {c : Int} (h : c < 0 ∨ (bs.length : Int) ≤ c) : ordE bs c = 1 := by unfold ordE; rw [if_pos h]
theorem ordE2 {bs : List (List Int)} {c : Int} (h : ¬ (c < 0 ∨ (bs.length : Int) ≤ c)) (h2 : 200 < bs.length) : ordE bs c = 2 := by unfold ordE; rw [if_neg h, if_pos h2]
theorem ordE3 {bs : List (List Int)} {c : Int} (h : ¬ (c < 0 ∨ (bs.length : Int) ≤ c)) (h2 : ¬ 200 < bs.length) (h3 : fitB bs = false) : ordE bs c = 3 := by unfold ordE; rw [if_neg h, if_neg h2, if_pos h3]
theorem ordE4 {bs : List (List Int)} {c : Int} (h : ¬ (c < 0 ∨ (bs.length : Int) ≤ c)) (h2 : ¬ 200 < bs.length) (h3 : fitB bs = true) (h4 : ord bs c = none) : ordE bs c = 13 := by
  unfold ordE; rw [if_neg h, if_neg h2, if_neg (by rw [h3]; decide), h4]
theorem ordE0 {bs : List (List Int)} {c : Int} {l : List Int} (h : ¬ (c < 0 ∨ (bs.length : Int) ≤ c)) (h2 : ¬ 200 < bs.length) (h3 : fitB bs = true) (h4 : ord bs c = some l) : ordE bs c = 0 := by
  unfold ordE; rw [if_neg h, if_neg h2, if_neg (by rw [h3]; decide), h4]
theorem ordL_bad {bs : List (List Int)} {c : Int} (h : ordE bs c ≠ 0) : ordL bs c = [] := by unfold ordL; rw [if_neg h]
theorem ordL_ok {bs : List (List Int)} {c : Int} {l : List Int} (h : ordE bs c = 0) (h4 : ord bs c = some l) : ordL bs c = l := by unfold ordL; rw [if_pos h, h4]; rfl
def OrderPost (W : World) (bs : List (List Int)) (c : Int) (e : Ending) (w' : World) : Prop := ∃ u, e = .returned (.tuple #[u, .int .i64 (ordE bs c)]) ∧ Ri w' u (ordL bs c) ∧ Below W.heap.size W w'
theorem OrderPost.bad {W w' : World} {bs : List (List Int)} {c er : Int} (h : ordE bs c = er) (h0 : er ≠ 0) (hb : Below W.heap.size W w') : OrderPost W bs c (.returned (.tuple #[.slice none 0 0, .int .i64 er])) w' :=
  ⟨_, by rw [h], by rw [ordL_bad (by rw [h]; exact h0)]; exact Ri.nil _, hb⟩
set_option maxRecDepth 100000 in
set_option maxHeartbeats 2000000 in
theorem reforder_any (u : Value) (bs : List (List Int)) (c : Int) (w : World) (h : Rm w u bs) (hml : ∀ i, (bs.getD i []).length ≤ 17592186043904) :
    Calls Try.prog 8 #[u, .int .i64 c] w (OrderPost w bs c) := by
  have HR := Lib.hid h
  have HML := Lib.hid hml
  obtain ⟨p, cc, rfl, hc, hm, _⟩ := rm_form h
  clear h hml
  by_cases h1 : c < 0 ∨ (bs.length : Int) ≤ c
  · have HE := Lib.hid (ordE1 h1)
    by_cases h0 : c < 0
    · clear h1
      go_enter Try.func8, Try.ntmps8
      go_wp2
      go_ret2
      exact OrderPost.bad HE.out (by decide) (Below.refl _ _)
    · have h2 : (bs.length : Int) ≤ c := by omega
      clear h1
      go_enter Try.func8, Try.ntmps8
      go_wp2
      go_ret2
      exact OrderPost.bad HE.out (by decide) (Below.refl _ _)
  · have h0 : ¬ c < 0 := by omega
    have h2 : ¬ (bs.length : Int) ≤ c := by omega
    have H1 := Lib.hid h1
    clear h1
    by_cases h3 : 200 < bs.length
    · have HE := Lib.hid (ordE2 H1.out h3)
      have h3z : (200 : Int) < (bs.length : Int) := by omega
      go_enter Try.func8, Try.ntmps8
      go_wp2
      go_ret2
      exact OrderPost.bad HE.out (by decide) (Below.refl _ _)
    · have h3z : ¬ (200 : Int) < (bs.length : Int) := by omega
      have HF := Lib.hid (reffit_any _ bs w HR.out (by omega) HML.out)
      cases hf : fitB bs with
      | false =>
        have HE := Lib.hid (ordE3 H1.out h3 hf)
        rw [hf] at HF
        clear hf
        go_enter Try.func8, Try.ntmps8
        go_wp2_with (go_at_call 17; (with_reducible refine HF.out.mono ?_); rintro e w' ⟨rfl, rfl⟩)
        go_ret2
        exact OrderPost.bad HE.out (by decide) (Below.refl _ _)
      | true =>
        have HO := Lib.hid (reforders_any _ bs w HR.out (by omega) (fitB_iff.1 hf))
        have HFT := Lib.hid hf
        rw [hf] at HF
        obtain ⟨n, rfl⟩ := Int.eq_ofNat_of_zero_le (show 0 ≤ c by omega)
        have hn : n < bs.length := by omega
        have hnz : (n : Int) < (bs.length : Int) := by omega
        clear hf
        go_enter Try.func8, Try.ntmps8
        go_wp2_with (go_at_call 17; (with_reducible refine HF.out.mono ?_); rintro e w' ⟨rfl, rfl⟩)
        go_wp2_with fail
        refine HO.out.mono ?_
        rintro e w2 ⟨ov, vs, rfl, hT, hb⟩
        have hent := (hT.ent n hn).1
        obtain ⟨pv, cv, rfl⟩ : ∃ pv cv, ov = .slice pv bs.length cv := by
          rcases hT.own.2 with ⟨e, h0⟩ | ⟨g, cap, cur, e, _⟩
          · omega
          · exact ⟨_, cap, e⟩
        obtain ⟨g, rfl, hcell⟩ := hT.cell hn
        have HB := Lib.hid hb
        have HENT := Lib.hid hent
        have eqn := fun (wx : World) => Lib.run_eql_slice_nil (P := Try.prog) wx 24 3 none 0 0 0 0 Try.underlying24
        have eqs := fun (wx : World) (a : Addr) (n c : Nat) => Lib.run_eql_slice_nil (P := Try.prog) wx 24 3 (some a) n c 0 0 Try.underlying24
        clear hT hb hent HF HO
        cases ho : ord bs (n : Int) with
        | none =>
          have hs : sel vs (n : Int) = .slice none 0 0 := by have h := HENT.out; rw [ho] at h; exact h
          have HE := Lib.hid (ordE4 H1.out h3 HFT.out ho)
          rw [hs] at hcell
          clear hs ho
          go_wp2
          go_ret2
          exact OrderPost.bad HE.out (by decide) HB.out
        | some l =>
          obtain ⟨b4, off4, n4, c4, hs, hr, _⟩ : ∃ b off n' c', sel vs (n : Int) = .slice (some ⟨b, off, none⟩) n' c' ∧ Ri w2 (sel vs (n : Int)) l ∧ 0 < l.length := by have h := HENT.out; rw [ho] at h; exact h
          have HE := Lib.hid (ordE0 H1.out h3 HFT.out ho)
          have HLO := Lib.hid (ordL_ok HE.out ho)
          rw [hs] at hcell hr
          have HR4 := Lib.hid hr
          clear hs ho hr
          go_wp2
          go_ret2
          exact ⟨_, by rw [HE.out]; rfl, by rw [HLO.out]; exact HR4.out, HB.out⟩
set_option maxRecDepth 100000 in
set_option maxHeartbeats 1000000 in
theorem sameints (v1 v2 : Value) (l : List Int) (w : World) (h1 : Ri w v1 l) (h2 : Ri w v2 l) :
    Calls Try.prog 9 #[v1, v2] w fun e w' => e = .returned (.bool true) ∧ Below w.heap.size w w' := by
  obtain ⟨p1, c1, rfl, _, hm, hp1⟩ := ri_form h1
  obtain ⟨p2, c2, rfl, _, _, hp2⟩ := ri_form h2
  have HP1 := Lib.hid hp1
  have HP2 := Lib.hid hp2
  clear h1 h2 hp1 hp2
  go_enter Try.func9, Try.ntmps9
  go_wp2_with fail
  go_loopw [5] (fun s wr => ∃ k q : Nat, s = .int .i64 k ∧ k ≤ l.length ∧ wr = w.drewN q) (fun s _ => l.length - (intOf s).toNat)
  case atStart => exact ⟨0, 0, by go_num, Nat.zero_le _, rfl⟩
  case round =>
    obtain ⟨k, q, rfl, hk, rfl⟩ := hrel
    by_cases hlt : k < l.length
    · obtain ⟨b1, o1, rfl, e1⟩ := HP1.out (by omega)
      obtain ⟨b2, o2, rfl, e2⟩ := HP2.out (by omega)
      have f1 := e1 k hlt
      have f2 := e2 k hlt
      generalize l.getD k 0 = x at f1 f2
      have hlz : (k : Int) < (l.length : Int) := by omega
      clear e1 e2
      go_wp2_with fail
      go_quiet (fail)
      go_wp2_with fail
      go_roundw
      case rel => exact ⟨k + 1, _, by go_num, by omega, rfl⟩
      case measure => simp [intOf]; omega
    · go_wp2_with fail
      go_ret
      exact ⟨rfl, ⟨rfl, rfl, rfl, Nat.le_refl _, fun _ _ => rfl⟩⟩
end Go.Proofs.Ytfddcmapjnkhhaa
