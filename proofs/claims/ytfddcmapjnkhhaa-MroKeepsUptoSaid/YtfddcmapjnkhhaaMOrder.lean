/- Layer 19: the program's Order. -/
import Derived.Test.YtfddcmapjnkhhaaMOrderRec
namespace Go.Proofs.Ytfddcmapjnkhhaa
open Go.ChangeShapes Go.WideShapes Go.RowKit
set_option linter.unusedVariables false
set_option linter.unusedSimpArgs false
def MPost (W : World) (bs : List (List Int)) (c : Int) (e : Ending) (w' : World) : Prop := ∃ u, e = .returned (.tuple #[u, .int .i64 (ordE bs c)]) ∧ OI w' W.heap.size u (ordL bs c) ∧ Below W.heap.size W w'
theorem MPost.bad {W w' : World} {bs : List (List Int)} {c er : Int} (h : ordE bs c = er) (h0 : er ≠ 0) (hb : Below W.heap.size W w') : MPost W bs c (.returned (.tuple #[.slice none 0 0, .int .i64 er])) w' :=
  ⟨_, by rw [h], by rw [ordL_bad (by rw [h]; exact h0)]; exact OW.nil _ _, hb⟩
theorem Only.new {W w w' : World} {m : Nat} (h : Only m w w') (hb : Below W.heap.size W w) (hm : W.heap.size ≤ m) : Below W.heap.size W w' := hb.trans (h.below hm hb.size)
set_option maxRecDepth 100000 in
set_option maxHeartbeats 4000000 in
theorem mroorder_any (u : Value) (bs : List (List Int)) (c : Int) (w : World) (h : Rm w u bs) (hml : ∀ i, (bs.getD i []).length ≤ 17592186043904) :
    Calls Try.prog 7 #[u, .int .i64 c] w (MPost w bs c) := by
  have HR := Lib.hid h
  have HML := Lib.hid hml
  obtain ⟨p, cc, rfl, hc, hm, _⟩ := rm_form h
  have hmm := @run_makeMap Try.prog
  clear h hml
  by_cases h1 : c < 0 ∨ (bs.length : Int) ≤ c
  · have HE := Lib.hid (ordE1 h1)
    by_cases h0 : c < 0
    · clear h1
      go_enter Try.func7, Try.ntmps7
      go_wp2
      go_ret2
      exact MPost.bad HE.out (by decide) (Below.refl _ _)
    · have h2 : (bs.length : Int) ≤ c := by omega
      clear h1
      go_enter Try.func7, Try.ntmps7
      go_wp2
      go_ret2
      exact MPost.bad HE.out (by decide) (Below.refl _ _)
  · have h0 : ¬ c < 0 := by omega
    have h2 : ¬ (bs.length : Int) ≤ c := by omega
    have H1 := Lib.hid h1
    clear h1
    by_cases h3 : 200 < bs.length
    · have HE := Lib.hid (ordE2 H1.out h3)
      have h3z : (200 : Int) < (bs.length : Int) := by omega
      go_enter Try.func7, Try.ntmps7
      go_wp2
      go_ret2
      exact MPost.bad HE.out (by decide) (Below.refl _ _)
    · have h3z : ¬ (200 : Int) < (bs.length : Int) := by omega
      have HF := Lib.hid (mrofit_any _ bs w HR.out (by omega) HML.out)
      cases hf : fitB bs with
      | false =>
        have HE := Lib.hid (ordE3 H1.out h3 hf)
        rw [hf] at HF
        clear hf
        go_enter Try.func7, Try.ntmps7
        go_wp2_with (go_at_call 14; (with_reducible refine HF.out.mono ?_); rintro e w2 ⟨rfl, hb2⟩; have HB2 := Lib.hid hb2; clear hb2)
        go_ret2
        exact MPost.bad HE.out (by decide) HB2.out
      | true =>
        have HFT := Lib.hid hf
        rw [hf] at HF
        obtain ⟨n, rfl⟩ := Int.eq_ofNat_of_zero_le (show 0 ≤ c by omega)
        have hn : n < bs.length := by omega
        have hnz : (n : Int) < (bs.length : Int) := by omega
        clear hf
        go_enter Try.func7, Try.ntmps7
        go_wp2_with (go_at_call 14; (with_reducible refine HF.out.mono ?_); rintro e w2 ⟨rfl, hb2⟩; have HB2 := Lib.hid hb2; clear hb2)
        refine (orderrec_any bs (fitB_iff.1 HFT.out) (by omega) (n + 1) n (Nat.lt_succ_self n) hn _ w2.heap.size (w2.alloc (.map #[] 0)) (fun _ => none) ((HR.out.keep HB2.out).keep ((Below.refl _ _).alloc (Nat.le_refl _) _)) ⟨(MapF.made w2).mono (Nat.zero_le _), fun x u hx => by cases hx⟩).mono ?_
        rintro e w3 ⟨⟨ho3, _⟩, hbad, hgood⟩
        have HB3 := Lib.hid (ho3.new (HB2.out.alloc HB2.out.size _) HB2.out.size)
        clear ho3
        cases ho : ord bs (n : Int) with
        | none =>
          obtain rfl := hbad ho
          have HE := Lib.hid (ordE4 H1.out h3 HFT.out ho)
          clear hbad hgood ho
          go_wp2
          go_ret2
          exact MPost.bad HE.out (by decide) HB3.out
        | some l =>
          obtain ⟨u3, rfl, hr3⟩ := hgood l ho
          have HE := Lib.hid (ordE0 H1.out h3 HFT.out ho)
          have HLO := Lib.hid (ordL_ok HE.out ho)
          have hok := ord_ok (fitB_iff.1 HFT.out) _ _ _ (by omega) rfl ho
          have hlen := ord_len (fitB_iff.1 HFT.out) (by omega) ho
          have hpos : 0 < l.length := by
            obtain ⟨r, rfl⟩ := hok.head
            simp
          obtain ⟨p5, c5, rfl, _, _, hcell5⟩ := ri_form hr3.1
          obtain ⟨b5, o5, rfl, _⟩ := hcell5 hpos
          have HC := Lib.hid (clone_any b5 o5 l.length c5 l w3 hr3.1 (by simp at hlen; omega))
          clear hbad hgood ho hok hr3 hcell5
          go_wp2_with fail
          refine HC.out.mono ?_
          rintro e w4 ⟨v, rfl, ho4, hb4⟩
          have HO4 := Lib.hid (OW.low (B' := w.heap.size) ho4 HB3.out.size)
          have HB4 := Lib.hid (HB3.out.trans (hb4.mono HB3.out.size))
          clear ho4 hb4
          go_wp2
          go_ret2
          exact ⟨_, by rw [HE.out]; rfl, by rw [HLO.out]; exact HO4.out, HB4.out⟩
end Go.Proofs.Ytfddcmapjnkhhaa
