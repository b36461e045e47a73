/- The law PlainLaws: whole. -/
import Derived.Test.YtpebnofjcodikaaGreatDoorPLawPl
import Derived.Test.YtpebnofjcodikaaGreatDoorPPbD
import Derived.Test.YtpebnofjcodikaaGreatDoorPGPlH
namespace Go.Proofs.YtpebnofjcodikaaGreatDoor
open Go Go.ChangeShapes Go.WideShapes Go.ChangeAt Go.RowKit
set_option linter.unusedVariables false
set_option linter.unusedSimpArgs false
set_option maxRecDepth 100000 in
set_option maxHeartbeats 4000000 in
theorem both_two (kA : Int) (yA nA : Bool) (uA : Value) (sA : List Int) (bA : Nat) (xA : ByteArray) (pAi : Option Addr) (mA cAi : Nat) (kB : Int) (yB nB : Bool) (uB : Value) (sB : List Int) (bB : Nat) (xB : ByteArray) (pBi : Option Addr) (mB cBi : Nat) (w : World) (hrA : Rd w uA sA) (hfA : Fit sA) (hbA : bA < 18446744073709551616) (hmA : (mA : Int) ≤ 9223372036854775807) (hxA : (xA.size : Int) ≤ 9223372036854775807) (hrB : Rd w uB sB) (hfB : Fit sB) (hbB : bB < 18446744073709551616) (hmB : (mB : Int) ≤ 9223372036854775807) (hxB : (xB.size : Int) ≤ 9223372036854775807) (gA gB : Bool) (hgA : goodP kA yA nA sA bA xA mA = gA) (hgB : goodP kB yB nB sB bB xB mB = gB) :
    Calls Tryz.prog 10 #[.agg #[.int .i64 kA, .bool yA, .bool nA, uA, .int .u64 (bA : Int), .string xA, .slice pAi mA cAi], .agg #[.int .i64 kB, .bool yB, .bool nB, uB, .int .u64 (bB : Int), .string xB, .slice pBi mB cBi]] w fun e w' => e = .returned (.bool (gA && gB)) ∧ Below w.heap.size w w' := by
  obtain ⟨pA, cA, rfl, hcA, hvA, hpA⟩ := rd_form hrA
  obtain ⟨pB, cB, rfl, hcB, hvB, hpB⟩ := rd_form hrB
  obtain ⟨W1, hW1, HB, HXA, HXB⟩ := pre3 w (.int .i64 kA) (.bool yA) (.bool nA) (.slice pA sA.length cA) (.int .u64 (bA : Int)) (.string xA) (.slice pAi mA cAi) (.int .i64 kB) (.bool yB) (.bool nB) (.slice pB sB.length cB) (.int .u64 (bB : Int)) (.string xB) (.slice pBi mB cBi)
  have HRA := Lib.hid (hrA.keep HB.out)
  have HRB := Lib.hid (hrB.keep HB.out)
  have HGA := Lib.hid (fun (W : World) (hx : Rd W (.slice pA sA.length cA) sA) => rgood15_any kA yA nA _ sA bA xA pAi mA cAi W hbA hx hfA hmA hxA)
  rw [hgA] at HGA
  have HGB := Lib.hid (fun (W : World) (hx : Rd W (.slice pB sB.length cB) sB) => rgood15_any kB yB nB _ sB bB xB pBi mB cBi W hbB hx hfB hmB hxB)
  rw [hgB] at HGB
  clear hrA hrB hfA hfB hpA hpB hbA hbB hmA hmB hxA hxB hgA hgB
  obtain ⟨fa0, fa1, fa2, fa3, fa4, fa5, fa6⟩ := HXA.out
  obtain ⟨fd0, fd1, fd2, fd3, fd4, fd5, fd6⟩ := HXB.out
  go_enter Tryz.func10, Tryz.ntmps10
  cases gA
  · go_wp2_with (first
      | (go_at_call 7; (try rw [hW1]); (with_reducible refine (HGA.out _ HRA.out).mono ?_); rintro e vn ⟨rfl, hvv⟩; obtain ⟨HB, HXA, HXB, HRA, HRB, ⟨fa0, fa1, fa2, fa3, fa4, fa5, fa6⟩, fd0, fd1, fd2, fd3, fd4, fd5, fd6⟩ := keep3all hvv HB HXA HXB HRA HRB; clear hvv)
      | fail)
    go_ret
    exact ⟨by rfl, HB.out⟩
  · go_wp2_with (first
      | (go_at_call 7; (try rw [hW1]); (with_reducible refine (HGA.out _ HRA.out).mono ?_); rintro e vn ⟨rfl, hvv⟩; obtain ⟨HB, HXA, HXB, HRA, HRB, ⟨fa0, fa1, fa2, fa3, fa4, fa5, fa6⟩, fd0, fd1, fd2, fd3, fd4, fd5, fd6⟩ := keep3all hvv HB HXA HXB HRA HRB; clear hvv)
      | (go_at_call 7; (try rw [hW1]); (with_reducible refine (HGB.out _ HRB.out).mono ?_); rintro e vn ⟨rfl, hvv⟩; obtain ⟨HB, HXA, HXB, HRA, HRB, ⟨fa0, fa1, fa2, fa3, fa4, fa5, fa6⟩, fd0, fd1, fd2, fd3, fd4, fd5, fd6⟩ := keep3all hvv HB HXA HXB HRA HRB; clear hvv)
      | fail)
    go_ret
    exact ⟨by cases gB <;> rfl, HB.out⟩
theorem zp_i {y n : Bool} {ws : List Int} {z : Int} (h : Sgn B18 n ws z) : zP 2 y n ws = z := by unfold zP; rw [if_pos rfl]; exact h.eq.symm
theorem zp_sgn2 {y n : Bool} {ws : List Int} {b : Nat} {s : ByteArray} {m : Nat} (hf : Fit ws) (hg : goodP 2 y n ws b s m = true) : Sgn B18 n ws (zP 2 y n ws) ∧ ws.length ≤ 30 := by
  have h := goodB_sgn (good_k2 hg rfl) hf
  refine ⟨?_, h.2⟩
  unfold zP
  rw [if_pos rfl]
  exact h.1
theorem small_zp {k : Int} {y n : Bool} {ws : List Int} {b : Nat} {s : ByteArray} {m : Nat} (hf : Fit ws) (hg : goodP k y n ws b s m = true) : Small (zP k y n ws) := by
  unfold zP
  split
  · rename_i h2
    obtain ⟨hs, hl⟩ := goodB_sgn (good_k2 hg h2) hf
    exact hs.small.1 hl
  · split
    · exact small_i 1 ⟨by decide, by decide⟩
    · exact small_i 0 ⟨by decide, by decide⟩
def repOK (s : ByteArray) (z : Int) : Prop := z ≤ 0 ∨ s.size = 0 ∨ (I64 z ∧ z.toNat ≤ 20000 / s.size)
theorem repT_nil {s : ByteArray} (h : s.size = 0) (n : Nat) : repT s n = ⟨#[]⟩ := by
  have h0 : s.data.toList = [] := by
    have : s.data.toList.length = 0 := by rw [Array.length_toList]; exact h
    exact List.length_eq_zero_iff.1 this
  unfold repT
  have : ∀ n, Lib.repeatL s.data.toList n = [] := fun n => by
    induction n with
    | zero => rfl
    | succ n ih => show s.data.toList ++ Lib.repeatL s.data.toList n = []; rw [ih, h0]; rfl
  rw [this]
theorem rep_yes (s : ByteArray) (n1 : Bool) (u1 : Value) (xs : List Int) (z : Int) (w : World) (hr : Rd w u1 xs) (hs : Sgn B18 n1 xs z) (hl : xs.length ≤ 30) (hsz : s.size ≤ 20000) (h : repOK s z) :
    Calls Tryz.prog 25 #[.string s, .agg #[.bool n1, u1]] w (ValT 4 0 0 (repT s z.toNat) 0 w) := by
  cases hn : n1 with
  | true =>
    subst hn
    have hz : z ≤ 0 := by have h9 := of_decide_eq_true (hs.neg_iff (by decide)).symm; omega
    rw [show z.toNat = 0 by omega]
    exact rep_neg s true u1 xs z w hr hs hl hsz rfl
  | false =>
    subst hn
    by_cases h0 : xs.length = 0
    · have hz := (hs.empty (by decide)).1 h0
      rw [show z.toNat = 0 by omega]
      exact rep_zero s false u1 xs z w hr hs hl hsz rfl h0
    · have hz0 : ¬ z = 0 := fun e => h0 ((hs.empty (by decide)).2 e)
      have hz : 0 < z := by
        by_cases h1 : z < 0
        · have h9 := hs.neg_iff (by decide); rw [decide_eq_true h1] at h9; cases h9
        · omega
      by_cases he : s.size = 0
      · rw [repT_nil he]
        exact rep_nil s false u1 xs z w hr hs hl hsz rfl (by omega) he
      · rcases h with h | h | ⟨h1, h2⟩
        · omega
        · exact absurd h he
        · exact rep_ok s false u1 xs z w hr hs hl hsz hz (by omega) h1 h2
theorem rep_no (s : ByteArray) (n1 : Bool) (u1 : Value) (xs : List Int) (z : Int) (w : World) (hr : Rd w u1 xs) (hs : Sgn B18 n1 xs z) (hl : xs.length ≤ 30) (hsz : s.size ≤ 20000) (h : ¬ repOK s z) :
    Calls Tryz.prog 25 #[.string s, .agg #[.bool n1, u1]] w (ValT 0 0 0 ⟨#[]⟩ 2 w) := by
  unfold repOK at h
  have hz : 0 < z := by by_cases h1 : z ≤ 0; exact absurd (.inl h1) h; omega
  have he : 0 < s.size := by by_cases h1 : s.size = 0; exact absurd (.inr (.inl h1)) h; omega
  by_cases hI : I64 z
  · have hL : 20000 / s.size < z.toNat := by
      by_cases h1 : z.toNat ≤ 20000 / s.size
      · exact absurd (.inr (.inr ⟨hI, h1⟩)) h
      · omega
    exact rep_long s n1 u1 xs z w hr hs hl hsz hz he hI hL
  · exact rep_far s n1 u1 xs z w hr hs hl hsz hz he hI
theorem mulsi_any (yA nA : Bool) (uA : Value) (sA : List Int) (bA : Nat) (xA : ByteArray) (pAi : Option Addr) (mA cAi : Nat) (yB nB : Bool) (uB : Value) (sB : List Int) (bB : Nat) (xB : ByteArray) (pBi : Option Addr) (mB cBi : Nat) (w : World) (hrA : Rd w uA sA) (hfA : Fit sA) (hbA : bA < 18446744073709551616) (hmA : (mA : Int) ≤ 9223372036854775807) (hxA : (xA.size : Int) ≤ 9223372036854775807) (hrB : Rd w uB sB) (hfB : Fit sB) (hbB : bB < 18446744073709551616) (hmB : (mB : Int) ≤ 9223372036854775807) (hxB : (xB.size : Int) ≤ 9223372036854775807) (hgA : goodP 4 yA nA sA bA xA mA = true) (hgB : goodP 2 yB nB sB bB xB mB = true) : ∃ K S X, (repOK xA (zP 2 yB nB sB) → K = 4 ∧ S = repT xA (zP 2 yB nB sB).toNat ∧ X = 0) ∧ (¬ repOK xA (zP 2 yB nB sB) → K = 0 ∧ S = ⟨#[]⟩ ∧ X = 2) ∧ ∀ W, Rd W uA sA → Rd W uB sB → Calls Tryz.prog 5 #[.int .i64 3, .agg #[.int .i64 4, .bool yA, .bool nA, uA, .int .u64 (bA : Int), .string xA, .slice pAi mA cAi], .agg #[.int .i64 2, .bool yB, .bool nB, uB, .int .u64 (bB : Int), .string xB, .slice pBi mB cBi]] W (ValT K 0 0 S X W) := by
  have hszA := good_len hgA rfl
  by_cases hrep : repOK xA (zP 2 yB nB sB)
  · exact ⟨4, _, 0, fun _ => ⟨rfl, rfl, rfl⟩, fun h => absurd hrep h, fun W rA rB => bin_rep yA nA uA sA bA xA pAi mA cAi 2 yB nB uB sB bB xB pBi mB cBi W rA hfA hbA hmA hxA rB hfB hbB hmB hxB hgA hgB (by decide) 4 _ 0 (fun n1 u1 xs W' r g l => rep_yes xA n1 u1 xs _ W' r g l hszA hrep)⟩
  · exact ⟨0, _, 2, fun h => absurd h hrep, fun _ => ⟨rfl, rfl, rfl⟩, fun W rA rB => bin_rep yA nA uA sA bA xA pAi mA cAi 2 yB nB uB sB bB xB pBi mB cBi W rA hfA hbA hmA hxA rB hfB hbB hmB hxB hgA hgB (by decide) 0 _ 2 (fun n1 u1 xs W' r g l => rep_no xA n1 u1 xs _ W' r g l hszA hrep)⟩
theorem zrow {n : Bool} {ys : List Int} {z : Int} (g : Sgn B18 n ys z) (h : z = 0) : ys = [] := List.length_eq_zero_iff.1 ((g.empty (by decide)).2 h)
theorem nzrow {n : Bool} {ys : List Int} {z : Int} (g : Sgn B18 n ys z) (h : z ≠ 0) : 0 < ys.length := Nat.pos_of_ne_zero fun e => h ((g.empty (by decide)).1 e)
theorem good_z0 {n : Bool} {ws : List Int} (hs : Sgn B18 n ws 0) : goodP 0 false n ws 0 ⟨#[]⟩ 0 = true := by
  obtain ⟨rfl, rfl⟩ := hs.uniq (by decide) sgn_nil
  decide +kernel
set_option maxHeartbeats 4000000 in
theorem plw_ints (yA nA : Bool) (pA : Option Addr) (sA : List Int) (cA : Nat) (bA : Nat) (xA : ByteArray) (pAi : Option Addr) (mA cAi : Nat) (yB nB : Bool) (pB : Option Addr) (sB : List Int) (cB : Nat) (bB : Nat) (xB : ByteArray) (pBi : Option Addr) (mB cBi : Nat) (w : World) (hrA : Rd w (.slice pA sA.length cA) sA) (hfA : Fit sA) (hbA : bA < 18446744073709551616) (hmA : (mA : Int) ≤ 9223372036854775807) (hxA : (xA.size : Int) ≤ 9223372036854775807) (hrB : Rd w (.slice pB sB.length cB) sB) (hfB : Fit sB) (hbB : bB < 18446744073709551616) (hmB : (mB : Int) ≤ 9223372036854775807) (hxB : (xB.size : Int) ≤ 9223372036854775807) (hgA : goodP 2 yA nA sA bA xA mA = true) (hgB : goodP 2 yB nB sB bB xB mB = true) (hsm : Small (zP 2 yA nA sA + zP 2 yB nB sB)) : Calls Tryz.prog 3 #[.agg #[.int .i64 2, .bool yA, .bool nA, .slice pA sA.length cA, .int .u64 (bA : Int), .string xA, .slice pAi mA cAi], .agg #[.int .i64 2, .bool yB, .bool nB, .slice pB sB.length cB, .int .u64 (bB : Int), .string xB, .slice pBi mB cBi]] w fun e w' => e = .returned (.bool true) ∧ Below w.heap.size w w' := by
  have hszA := (zp_sgn2 hfA hgA)
  have hszB := (zp_sgn2 hfB hgB)
  have hSA := small_zp hfA hgA
  have hSB := small_zp hfB hgB
  obtain ⟨zA, hzA⟩ : ∃ z, zP 2 yA nA sA = z := ⟨_, rfl⟩
  obtain ⟨zB, hzB⟩ : ∃ z, zP 2 yB nB sB = z := ⟨_, rfl⟩
  rw [hzA] at hszA hSA hsm
  rw [hzB] at hszB hSB hsm
  have hS := fun (W : World) (hx : Below w.heap.size w W) => bin_w 1 2 yA nA _ sA bA xA pAi mA cAi 2 yB nB _ sB bB xB pBi mB cBi W (hrA.keep hx) hfA hbA hmA hxA (hrB.keep hx) hfB hbB hmB hxB hgA hgB (by decide) (by decide) (by decide) (by decide) 2 (zA + zB) 0 0 (fun n1 u1 xs n2 u2 ys W' r1 r2 g1 g2 l1 l2 => bw1_ok n1 u1 xs zA n2 u2 ys zB W' r1 r2 (hzA ▸ g1) (hzB ▸ g2) l1 l2 hsm)
  have hD := fun (n1 : Bool) (p1 : Option Addr) (c1 : Nat) (s1 : List Int) (W : World) (hx : Below w.heap.size w W) (hr1 : Rd W (.slice p1 s1.length c1) s1) (hs1 : Sgn B18 n1 s1 (zA + zB)) (hl1 : s1.length ≤ 30) => bin_w 2 2 false n1 _ s1 0 ⟨#[]⟩ none 0 0 2 yB nB _ sB bB xB pBi mB cBi W hr1 hs1.canon.fit (by decide) (by decide) (by decide) (hrB.keep hx) hfB hbB hmB hxB (good_i hs1 hl1) hgB (by decide) (by decide) (by decide) (by decide) 2 zA 0 0 (fun n1 u1 xs n2 u2 ys W' r1 r2 g1 g2 l1 l2 => (bw2_ok n1 u1 xs (zA + zB) n2 u2 ys zB W' r1 r2 ((zp_i (y := false) hs1) ▸ g1) (hzB ▸ g2) l1 l2 (by rw [show zA + zB - zB = zA by omega]; exact hSA)).mono (fun e w9 h => by rwa [show zA + zB - zB = zA by omega] at h))
  have hxe : (xA.toList == xA.toList) = true := by simp
  have hSd := fun (n2 : Bool) (p2 : Option Addr) (c2 : Nat) (s2 : List Int) (W : World) (hx : Below w.heap.size w W) (hr2 : Rd W (.slice p2 s2.length c2) s2) (hs2 : Sgn B18 n2 s2 zA) (hl2 : s2.length ≤ 30) => same_two 2 false n2 _ s2 0 ⟨#[]⟩ none 0 0 yA nA _ sA bA xA pAi mA cAi W hr2 hs2.canon.fit (by decide) (by decide) (by decide) (hrA.keep hx) hfA hbA hmA hxA (good_i hs2 hl2) hgA (.inl rfl) (by rw [good_text hgA (by decide)]; first | rfl | simp | decide) zA hs2 hszA.1 hl2 hszA.2
  by_cases h0 : sB.length = 0
  · have h0' : sB = [] := List.length_eq_zero_iff.1 h0
    exact pl_int yA nA pA sA cA bA xA pAi mA cAi yB nB pB sB cB bB xB pBi mB cBi w zA (zA + zB) 0 0 0 0 6 0 0 0 0 0 0 hS hD hSd (fun (W : World) (hx : Below w.heap.size w W) => bin_w 5 2 yA nA _ sA bA xA pAi mA cAi 2 yB nB _ sB bB xB pBi mB cBi W (hrA.keep hx) hfA hbA hmA hxA (hrB.keep hx) hfB hbB hmB hxB hgA hgB (by decide) (by decide) (by decide) (by decide) 0 0 0 6 (fun n1 u1 xs n2 u2 ys W' r1 r2 g1 g2 l1 l2 => bw5_zero n1 u1 xs _ n2 u2 ys _ W' r1 r2 g1 g2 l1 l2 (zrow g2 (hzB.trans ((hszB.1.empty (by decide)).1 h0))))) (fun (W : World) (hx : Below w.heap.size w W) => bin_w 6 2 yA nA _ sA bA xA pAi mA cAi 2 yB nB _ sB bB xB pBi mB cBi W (hrA.keep hx) hfA hbA hmA hxA (hrB.keep hx) hfB hbB hmB hxB hgA hgB (by decide) (by decide) (by decide) (by decide) 0 0 0 6 (fun n1 u1 xs n2 u2 ys W' r1 r2 g1 g2 l1 l2 => bw6_zero n1 u1 xs _ n2 u2 ys _ W' r1 r2 g1 g2 l1 l2 (zrow g2 (hzB.trans ((hszB.1.empty (by decide)).1 h0))))) (.inl ⟨rfl, h0⟩) (fun h => absurd h (by decide)) (fun h => absurd h (by decide))
  · have hn0 : zB ≠ 0 := fun h => h0 ((hszB.1.empty (by decide)).2 h)
    have heq : Int.fdiv zA zB * zB + Int.fmod zA zB = zA := by
      have := Int.fmod_add_mul_fdiv zA zB
      rw [Int.mul_comm]; omega
    have hQ := fun (W : World) (hx : Below w.heap.size w W) => bin_w 5 2 yA nA _ sA bA xA pAi mA cAi 2 yB nB _ sB bB xB pBi mB cBi W (hrA.keep hx) hfA hbA hmA hxA (hrB.keep hx) hfB hbB hmB hxB hgA hgB (by decide) (by decide) (by decide) (by decide) 2 (Int.fdiv zA zB) 0 0 (fun n1 u1 xs n2 u2 ys W' r1 r2 g1 g2 l1 l2 => bw5_ok n1 u1 xs zA n2 u2 ys zB W' r1 r2 (hzA ▸ g1) (hzB ▸ g2) l1 l2 (nzrow (hzB ▸ g2) hn0))
    have hR := fun (W : World) (hx : Below w.heap.size w W) => bin_w 6 2 yA nA _ sA bA xA pAi mA cAi 2 yB nB _ sB bB xB pBi mB cBi W (hrA.keep hx) hfA hbA hmA hxA (hrB.keep hx) hfB hbB hmB hxB hgA hgB (by decide) (by decide) (by decide) (by decide) 2 (Int.fmod zA zB) 0 0 (fun n1 u1 xs n2 u2 ys W' r1 r2 g1 g2 l1 l2 => bw6_ok n1 u1 xs zA n2 u2 ys zB W' r1 r2 (hzA ▸ g1) (hzB ▸ g2) l1 l2 (nzrow (hzB ▸ g2) hn0))
    by_cases hpq : Small (Int.fdiv zA zB * zB)
    · exact pl_int yA nA pA sA cA bA xA pAi mA cAi yB nB pB sB cB bB xB pBi mB cBi w zA (zA + zB) 2 (Int.fdiv zA zB) 2 (Int.fmod zA zB) 0 2 (Int.fdiv zA zB * zB) 0 2 zA 0 hS hD hSd hQ hR (.inr ⟨rfl, Nat.pos_of_ne_zero h0, fun _ => ⟨rfl, rfl, rfl⟩⟩) (fun _ => fun (n3 : Bool) (p3 : Option Addr) (c3 : Nat) (s3 : List Int) (W : World) (hx : Below w.heap.size w W) (hr3 : Rd W (.slice p3 s3.length c3) s3) (hs3 : Sgn B18 n3 s3 (Int.fdiv zA zB)) (hl3 : s3.length ≤ 30) => bin_w 3 2 false n3 _ s3 0 ⟨#[]⟩ none 0 0 2 yB nB _ sB bB xB pBi mB cBi W hr3 hs3.canon.fit (by decide) (by decide) (by decide) (hrB.keep hx) hfB hbB hmB hxB (good_i hs3 hl3) hgB (by decide) (by decide) (by decide) (by decide) 2 (Int.fdiv zA zB * zB) 0 0 (fun n1 u1 xs n2 u2 ys W' r1 r2 g1 g2 l1 l2 => bw3_ok n1 u1 xs _ n2 u2 ys zB W' r1 r2 ((zp_i (y := false) hs3) ▸ g1) (hzB ▸ g2) l1 l2 hpq)) (fun _ => fun (n5 : Bool) (p5 : Option Addr) (c5 : Nat) (s5 : List Int) (n4 : Bool) (p4 : Option Addr) (c4 : Nat) (s4 : List Int) (W : World) (hx : Below w.heap.size w W) (hr5 : Rd W (.slice p5 s5.length c5) s5) (hs5 : Sgn B18 n5 s5 (Int.fdiv zA zB * zB)) (hl5 : s5.length ≤ 30) (hr4 : Rd W (.slice p4 s4.length c4) s4) (hs4 : Sgn B18 n4 s4 (Int.fmod zA zB)) (hl4 : s4.length ≤ 30) => bin_w 1 2 false n5 _ s5 0 ⟨#[]⟩ none 0 0 2 false n4 _ s4 0 ⟨#[]⟩ none 0 0 W hr5 hs5.canon.fit (by decide) (by decide) (by decide) hr4 hs4.canon.fit (by decide) (by decide) (by decide) (good_i hs5 hl5) (good_i hs4 hl4) (by decide) (by decide) (by decide) (by decide) 2 zA 0 0 (fun n1 u1 xs n2 u2 ys W' r1 r2 g1 g2 l1 l2 => (bw1_ok n1 u1 xs _ n2 u2 ys _ W' r1 r2 ((zp_i (y := false) hs5) ▸ g1) ((zp_i (y := false) hs4) ▸ g2) l1 l2 (by rw [heq]; exact hSA)).mono (fun e w9 h => by rwa [heq] at h)))
    · exact pl_int yA nA pA sA cA bA xA pAi mA cAi yB nB pB sB cB bB xB pBi mB cBi w zA (zA + zB) 2 (Int.fdiv zA zB) 2 (Int.fmod zA zB) 0 0 0 7 0 0 9 hS hD hSd hQ hR (.inr ⟨rfl, Nat.pos_of_ne_zero h0, fun h => absurd h (by decide)⟩) (fun _ => fun (n3 : Bool) (p3 : Option Addr) (c3 : Nat) (s3 : List Int) (W : World) (hx : Below w.heap.size w W) (hr3 : Rd W (.slice p3 s3.length c3) s3) (hs3 : Sgn B18 n3 s3 (Int.fdiv zA zB)) (hl3 : s3.length ≤ 30) => bin_w 3 2 false n3 _ s3 0 ⟨#[]⟩ none 0 0 2 yB nB _ sB bB xB pBi mB cBi W hr3 hs3.canon.fit (by decide) (by decide) (by decide) (hrB.keep hx) hfB hbB hmB hxB (good_i hs3 hl3) hgB (by decide) (by decide) (by decide) (by decide) 0 0 0 7 (fun n1 u1 xs n2 u2 ys W' r1 r2 g1 g2 l1 l2 => bw3_no n1 u1 xs _ n2 u2 ys zB W' r1 r2 ((zp_i (y := false) hs3) ▸ g1) (hzB ▸ g2) l1 l2 hpq)) (fun _ => fun (n5 : Bool) (p5 : Option Addr) (c5 : Nat) (s5 : List Int) (n4 : Bool) (p4 : Option Addr) (c4 : Nat) (s4 : List Int) (W : World) (hx : Below w.heap.size w W) (hr5 : Rd W (.slice p5 s5.length c5) s5) (hs5 : Sgn B18 n5 s5 (0)) (hl5 : s5.length ≤ 30) (hr4 : Rd W (.slice p4 s4.length c4) s4) (hs4 : Sgn B18 n4 s4 (Int.fmod zA zB)) (hl4 : s4.length ≤ 30) => bin_typ0 false n5 _ s5 0 ⟨#[]⟩ none 0 0 2 false n4 _ s4 0 ⟨#[]⟩ none 0 0 W hr5 hs5.canon.fit (by decide) (by decide) (by decide) hr4 hs4.canon.fit (by decide) (by decide) (by decide) (good_z0 hs5) (good_i hs4 hl4))
set_option maxRecDepth 100000 in
set_option maxHeartbeats 4000000 in
theorem plw_strs (yA nA : Bool) (pA : Option Addr) (sA : List Int) (cA : Nat) (bA : Nat) (xA : ByteArray) (pAi : Option Addr) (mA cAi : Nat) (yB nB : Bool) (pB : Option Addr) (sB : List Int) (cB : Nat) (bB : Nat) (xB : ByteArray) (pBi : Option Addr) (mB cBi : Nat) (w : World) (hrA : Rd w (.slice pA sA.length cA) sA) (hfA : Fit sA) (hbA : bA < 18446744073709551616) (hmA : (mA : Int) ≤ 9223372036854775807) (hxA : (xA.size : Int) ≤ 9223372036854775807) (hrB : Rd w (.slice pB sB.length cB) sB) (hfB : Fit sB) (hbB : bB < 18446744073709551616) (hmB : (mB : Int) ≤ 9223372036854775807) (hxB : (xB.size : Int) ≤ 9223372036854775807) (hgA : goodP 4 yA nA sA bA xA mA = true) (hgB : goodP 2 yB nB sB bB xB mB = true) (K Z : Int) (BB : Nat) (SS : ByteArray) (X : Int) (hS : ∀ W, Below w.heap.size w W → Calls Tryz.prog 5 #[.int .i64 1, .agg #[.int .i64 4, .bool yA, .bool nA, .slice pA sA.length cA, .int .u64 (bA : Int), .string xA, .slice pAi mA cAi], .agg #[.int .i64 2, .bool yB, .bool nB, .slice pB sB.length cB, .int .u64 (bB : Int), .string xB, .slice pBi mB cBi]] W (ValT K Z BB SS X W)) (hO : ∀ W, Below w.heap.size w W → Calls Tryz.prog 10 #[.agg #[.int .i64 4, .bool yA, .bool nA, .slice pA sA.length cA, .int .u64 (bA : Int), .string xA, .slice pAi mA cAi], .agg #[.int .i64 2, .bool yB, .bool nB, .slice pB sB.length cB, .int .u64 (bB : Int), .string xB, .slice pBi mB cBi]] W fun e w' => e = .returned (.bool true) ∧ Below W.heap.size W w') : Calls Tryz.prog 3 #[.agg #[.int .i64 4, .bool yA, .bool nA, .slice pA sA.length cA, .int .u64 (bA : Int), .string xA, .slice pAi mA cAi], .agg #[.int .i64 2, .bool yB, .bool nB, .slice pB sB.length cB, .int .u64 (bB : Int), .string xB, .slice pBi mB cBi]] w fun e w' => e = .returned (.bool true) ∧ Below w.heap.size w w' := by
  have hszB := zp_sgn2 hfB hgB
  have hszA := good_len hgA rfl
  obtain ⟨KX, SX, XX, x1, x2, hX0⟩ := mulsi_any yA nA _ sA bA xA pAi mA cAi yB nB _ sB bB xB pBi mB cBi w hrA hfA hbA hmA hxA hrB hfB hbB hmB hxB hgA hgB
  have hX := fun (W : World) (hx : Below w.heap.size w W) => hX0 W (hrA.keep hx) (hrB.keep hx)
  obtain ⟨zB, hzB⟩ : ∃ z, zP 2 yB nB sB = z := ⟨_, rfl⟩
  rw [hzB] at hszB x1 x2
  by_cases hsn : Small (zB + 1)
  · have hN := fun (n2 : Bool) (p2 : Option Addr) (c2 : Nat) (s2 : List Int) (W : World) (hx : Below w.heap.size w W) (hr2 : Rd W (.slice p2 s2.length c2) s2) (hs2 : Sgn B18 n2 s2 (1)) (hl2 : s2.length ≤ 30) => bin_w 1 2 yB nB _ sB bB xB pBi mB cBi 2 false n2 _ s2 0 ⟨#[]⟩ none 0 0 W (hrB.keep hx) hfB hbB hmB hxB hr2 hs2.canon.fit (by decide) (by decide) (by decide) hgB (good_i hs2 hl2) (by decide) (by decide) (by decide) (by decide) 2 (zB + 1) 0 0 (fun n1 u1 xs n2 u2 ys W' r1 r2 g1 g2 l1 l2 => bw1_ok n1 u1 xs zB n2 u2 ys 1 W' r1 r2 (hzB ▸ g1) ((zp_i (y := false) hs2) ▸ g2) l1 l2 hsn)
    have hYs : ∃ KY SY XY, (repOK xA (zB + 1) → KY = 4 ∧ SY = repT xA (zB + 1).toNat ∧ XY = 0) ∧ (¬ repOK xA (zB + 1) → KY = 0 ∧ SY = ⟨#[]⟩ ∧ XY = 2) ∧ ∀ (n3 : Bool) (p3 : Option Addr) (c3 : Nat) (s3 : List Int) (W : World), Below w.heap.size w W → Rd W (.slice p3 s3.length c3) s3 → Sgn B18 n3 s3 (zB + 1) → s3.length ≤ 30 → Calls Tryz.prog 5 #[.int .i64 3, .agg #[.int .i64 4, .bool yA, .bool nA, .slice pA sA.length cA, .int .u64 (bA : Int), .string xA, .slice pAi mA cAi], .agg #[.int .i64 2, .bool false, .bool n3, .slice p3 s3.length c3, .int .u64 0, .string ⟨#[]⟩, .slice none 0 0]] W (ValT KY 0 0 SY XY W) := by
      by_cases hrep : repOK xA (zB + 1)
      · exact ⟨4, _, 0, fun _ => ⟨rfl, rfl, rfl⟩, fun h => absurd hrep h, fun n3 p3 c3 s3 W hx hr3 hs3 hl3 => bin_rep yA nA _ sA bA xA pAi mA cAi 2 false n3 _ s3 0 ⟨#[]⟩ none 0 0 W (hrA.keep hx) hfA hbA hmA hxA hr3 hs3.canon.fit (by decide) (by decide) (by decide) hgA (good_i hs3 hl3) (by decide) 4 _ 0 (fun n1 u1 xs W' r g l => rep_yes xA n1 u1 xs _ W' r ((zp_i (y := false) hs3) ▸ g) l hszA hrep)⟩
      · exact ⟨0, _, 2, fun h => absurd h hrep, fun _ => ⟨rfl, rfl, rfl⟩, fun n3 p3 c3 s3 W hx hr3 hs3 hl3 => bin_rep yA nA _ sA bA xA pAi mA cAi 2 false n3 _ s3 0 ⟨#[]⟩ none 0 0 W (hrA.keep hx) hfA hbA hmA hxA hr3 hs3.canon.fit (by decide) (by decide) (by decide) hgA (good_i hs3 hl3) (by decide) 0 _ 2 (fun n1 u1 xs W' r g l => rep_no xA n1 u1 xs _ W' r ((zp_i (y := false) hs3) ▸ g) l hszA hrep)⟩
    obtain ⟨KY, SY, XY, y1, y2, hY⟩ := hYs
    by_cases rx : repOK xA zB
    · obtain ⟨rfl, rfl, rfl⟩ := x1 rx
      by_cases ry : repOK xA (zB + 1)
      · obtain ⟨rfl, rfl, rfl⟩ := y1 ry
        by_cases hn : nB = true
        · exact pl_str yA nA pA sA cA bA xA pAi mA cAi yB nB pB sB cB bB xB pBi mB cBi w K Z BB SS X 2 (zB + 1) 0 4 0 4 0 _ _ ⟨#[]⟩ hS hO hN hX hY (fun _ _ _ h => by rw [hn] at h; cases h) (fun _ _ _ h => by rw [hn] at h; cases h)
        · replace hn : nB = false := by simpa using hn
          have hz0 : 0 ≤ zB := by
            by_cases h1 : zB < 0
            · have h9 := hszB.1.neg_iff (by decide); rw [hn, decide_eq_true h1] at h9; cases h9
            · omega
          have hnat : (zB + 1).toNat = zB.toNat + 1 := by omega
          have hbnd : (zB.toNat + 1) * xA.size ≤ 20000 := by
            rcases ry with h | h | ⟨_, h⟩
            · omega
            · rw [h]; simp
            · rw [hnat] at h
              exact Nat.le_trans (Nat.mul_le_mul_right _ h) (Nat.div_mul_le_self _ _)
          have hbn2 : (repT xA zB.toNat).size + xA.size ≤ 20000 := by rw [rep_len]; rw [Nat.succ_mul] at hbnd; exact hbnd
          rw [hnat] at hY
          exact pl_str yA nA pA sA cA bA xA pAi mA cAi yB nB pB sB cB bB xB pBi mB cBi w K Z BB SS X 2 (zB + 1) 0 4 0 4 0 _ _ (repT xA zB.toNat ++ xA) hS hO hN hX hY (fun _ _ _ _ (n4 : Bool) (p4 : Option Addr) (c4 : Nat) (s4 : List Int) (W : World) (hx : Below w.heap.size w W) (hr4 : Rd W (.slice p4 s4.length c4) s4) (hs4 : Sgn B18 n4 s4 (0)) (hl4 : s4.length ≤ 30) => bin_ss false n4 _ s4 0 (repT xA zB.toNat) none 0 0 yA nA _ sA bA xA pAi mA cAi W hr4 hs4.canon.fit (by decide) (by decide) (by omega) (hrA.keep hx) hfA hbA hmA hxA (good_sz hs4 (by omega)) hgA hbn2) (fun _ _ _ _ (n5 : Bool) (p5 : Option Addr) (c5 : Nat) (s5 : List Int) (n6 : Bool) (p6 : Option Addr) (c6 : Nat) (s6 : List Int) (W : World) (hx : Below w.heap.size w W) (hr5 : Rd W (.slice p5 s5.length c5) s5) (hs5 : Sgn B18 n5 s5 (0)) (hl5 : s5.length ≤ 30) (hr6 : Rd W (.slice p6 s6.length c6) s6) (hs6 : Sgn B18 n6 s6 (0)) (hl6 : s6.length ≤ 30) => same_two 4 false n5 _ s5 0 (repT xA (zB.toNat + 1)) none 0 0 false n6 _ s6 0 (repT xA zB.toNat ++ xA) none 0 0 W hr5 hs5.canon.fit (by decide) (by decide) (by rw [rep_len]; omega) hr6 hs6.canon.fit (by decide) (by decide) (by rw [ByteArray.size_append]; omega) (good_sz hs5 (by rw [rep_len]; exact hbnd)) (good_sz hs6 (by rw [ByteArray.size_append]; exact hbn2)) (.inr rfl) (by rw [rep_succ]; simp) 0 hs5 hs6 hl5 hl6)
      · obtain ⟨rfl, rfl, rfl⟩ := y2 ry
        exact pl_str yA nA pA sA cA bA xA pAi mA cAi yB nB pB sB cB bB xB pBi mB cBi w K Z BB SS X 2 (zB + 1) 0 4 0 0 2 _ ⟨#[]⟩ ⟨#[]⟩ hS hO hN hX hY (fun _ _ h => absurd h (by decide)) (fun _ _ h => absurd h (by decide))
    · obtain ⟨rfl, rfl, rfl⟩ := x2 rx
      exact pl_str yA nA pA sA cA bA xA pAi mA cAi yB nB pB sB cB bB xB pBi mB cBi w K Z BB SS X 2 (zB + 1) 0 0 2 KY XY ⟨#[]⟩ SY ⟨#[]⟩ hS hO hN hX hY (fun _ h => absurd h (by decide)) (fun _ h => absurd h (by decide))
  · have hN := fun (n2 : Bool) (p2 : Option Addr) (c2 : Nat) (s2 : List Int) (W : World) (hx : Below w.heap.size w W) (hr2 : Rd W (.slice p2 s2.length c2) s2) (hs2 : Sgn B18 n2 s2 (1)) (hl2 : s2.length ≤ 30) => bin_w 1 2 yB nB _ sB bB xB pBi mB cBi 2 false n2 _ s2 0 ⟨#[]⟩ none 0 0 W (hrB.keep hx) hfB hbB hmB hxB hr2 hs2.canon.fit (by decide) (by decide) (by decide) hgB (good_i hs2 hl2) (by decide) (by decide) (by decide) (by decide) 0 0 0 7 (fun n1 u1 xs n2 u2 ys W' r1 r2 g1 g2 l1 l2 => bw1_no n1 u1 xs zB n2 u2 ys 1 W' r1 r2 (hzB ▸ g1) ((zp_i (y := false) hs2) ▸ g2) l1 l2 hsn)
    exact pl_str yA nA pA sA cA bA xA pAi mA cAi yB nB pB sB cB bB xB pBi mB cBi w K Z BB SS X 0 0 7 KX XX 0 9 SX ⟨#[]⟩ ⟨#[]⟩ hS hO hN hX (fun (n3 : Bool) (p3 : Option Addr) (c3 : Nat) (s3 : List Int) (W : World) (hx : Below w.heap.size w W) (hr3 : Rd W (.slice p3 s3.length c3) s3) (hs3 : Sgn B18 n3 s3 (0)) (hl3 : s3.length ≤ 30) => bin3_typ yA nA _ sA bA xA pAi mA cAi 0 false n3 _ s3 0 ⟨#[]⟩ none 0 0 W (hrA.keep hx) hfA hbA hmA hxA hr3 hs3.canon.fit (by decide) (by decide) (by decide) hgA (good_z0 hs3) (by decide) (by decide)) (fun h => absurd h (by decide)) (fun h => absurd h (by decide))
set_option maxRecDepth 100000 in
set_option maxHeartbeats 4000000 in
theorem law_plaws {hiT loT T : Nat → Nat} (hft : TBF hiT loT T) (h3 : hiT 348 = 9223372036854775808) (h4 : loT 348 = 0) (tv : TypeId) (yv : Value) (kA : Int) (yA nA : Bool) (uA : Value) (sA : List Int) (bA : Nat) (xA : ByteArray) (pAi : Option Addr) (mA cAi : Nat) (kB : Int) (yB nB : Bool) (uB : Value) (sB : List Int) (bB : Nat) (xB : ByteArray) (pBi : Option Addr) (mB cBi : Nat) (w : World) (hrA : Rd w uA sA) (hfA : Fit sA) (hbA : bA < 18446744073709551616) (hmA : (mA : Int) ≤ 9223372036854775807) (hxA : (xA.size : Int) ≤ 9223372036854775807) (hrB : Rd w uB sB) (hfB : Fit sB) (hbB : bB < 18446744073709551616) (hmB : (mB : Int) ≤ 9223372036854775807) (hxB : (xB.size : Int) ≤ 9223372036854775807) (hP : P10R w) (hT : PFT hiT loT T tv yv w w.heap.size) :
    Calls Tryz.prog 3 #[.agg #[.int .i64 kA, .bool yA, .bool nA, uA, .int .u64 (bA : Int), .string xA, .slice pAi mA cAi], .agg #[.int .i64 kB, .bool yB, .bool nB, uB, .int .u64 (bB : Int), .string xB, .slice pBi mB cBi]] w fun e w' => e = .returned (.bool true) ∧ Below w.heap.size w w' := by
  obtain ⟨pA, cA, rfl, hcA, hvA, hpA⟩ := rd_form hrA
  obtain ⟨pB, cB, rfl, hcB, hvB, hpB⟩ := rd_form hrB
  by_cases k1 : kA = 1
  · subst k1
    have hG := fun (W : World) (hx : Below w.heap.size w W) => rgood15_any 1 yA nA _ sA bA xA pAi mA cAi W hbA (hrA.keep hx) hfA hmA hxA
    cases hgA : goodP 1 yA nA sA bA xA mA with
    | false =>
      rw [hgA] at hG
      exact pl_boolbad yA nA pA sA cA bA xA pAi mA cAi kB yB nB pB sB cB bB xB pBi mB cBi w 0 0 0 ⟨#[]⟩ 3 (fun W hx => bin_badA 1 1 yA nA _ sA bA xA pAi mA cAi kB yB nB _ sB bB xB pBi mB cBi W (hrA.keep hx) hfA hbA hmA hxA (hrB.keep hx) hfB hbB hmB hxB hgA) hG
    | true =>
      rw [hgA] at hG
      obtain ⟨n0, xs0, hs0⟩ := zp_sgn hfA hgA
      have hsm := small_zp hfA hgA
      obtain ⟨K, Z, BB, X, h⟩ := bin1_w hft h3 h4 tv yv _ n0 xs0 hs0 kB yB nB _ sB bB xB pBi mB cBi w hrB hfB hbB hmB hxB hP hT
      exact pl_bool yA nA pA sA cA bA xA pAi mA cAi kB yB nB pB sB cB bB xB pBi mB cBi w (zP 1 yA nA sA) K Z BB X (fun W hx => h 1 yA nA _ sA bA xA pAi mA cAi W hx (hrA.keep hx) hfA hbA hmA hxA hgA (by decide) rfl) hG (fun W hx => ti_w 1 yA nA _ sA bA xA pAi mA cAi W hbA (hrA.keep hx) hfA hmA hxA (.inl rfl) hgA) (fun n2 p2 c2 s2 W hx hr2 hs2 => h 2 false n2 _ s2 0 ⟨#[]⟩ none 0 0 W hx hr2 hs2.canon.fit (by decide) (by decide) (by decide) (good_i hs2 (hs2.small.2 hsm)) (by decide) (zp_i hs2))
  by_cases k2 : kA = 2
  · subst k2
    by_cases b2 : kB = 2
    · subst b2
      cases hgA : goodP 2 yA nA sA bA xA mA with
      | false => exact pl_int_err yA nA pA sA cA bA xA pAi mA cAi yB nB pB sB cB bB xB pBi mB cBi w 0 0 0 ⟨#[]⟩ 3 (by decide) (fun W hx => bin_badA 1 2 yA nA _ sA bA xA pAi mA cAi 2 yB nB _ sB bB xB pBi mB cBi W (hrA.keep hx) hfA hbA hmA hxA (hrB.keep hx) hfB hbB hmB hxB hgA)
      | true =>
        cases hgB : goodP 2 yB nB sB bB xB mB with
        | false => exact pl_int_err yA nA pA sA cA bA xA pAi mA cAi yB nB pB sB cB bB xB pBi mB cBi w 0 0 0 ⟨#[]⟩ 3 (by decide) (fun W hx => bin_badB 1 2 yA nA _ sA bA xA pAi mA cAi 2 yB nB _ sB bB xB pBi mB cBi W (hrA.keep hx) hfA hbA hmA hxA (hrB.keep hx) hfB hbB hmB hxB hgA hgB)
        | true =>
          by_cases hsm : Small (zP 2 yA nA sA + zP 2 yB nB sB)
          · exact plw_ints yA nA pA sA cA bA xA pAi mA cAi yB nB pB sB cB bB xB pBi mB cBi w hrA hfA hbA hmA hxA hrB hfB hbB hmB hxB hgA hgB hsm
          · exact pl_int_err yA nA pA sA cA bA xA pAi mA cAi yB nB pB sB cB bB xB pBi mB cBi w 0 0 0 ⟨#[]⟩ 7 (by decide) (fun W hx => bin_w 1 2 yA nA _ sA bA xA pAi mA cAi 2 yB nB _ sB bB xB pBi mB cBi W (hrA.keep hx) hfA hbA hmA hxA (hrB.keep hx) hfB hbB hmB hxB hgA hgB (by decide) (by decide) (by decide) (by decide) 0 0 0 7 (fun n1 u1 xs n2 u2 ys W' r1 r2 g1 g2 l1 l2 => bw1_no n1 u1 xs _ n2 u2 ys _ W' r1 r2 g1 g2 l1 l2 hsm))
    · obtain ⟨K, Z, BB, SS, X, hS⟩ := bin1_any hft h3 h4 tv yv 2 yA nA _ sA bA xA pAi mA cAi kB yB nB _ sB bB xB pBi mB cBi w hrA hfA hbA hmA hxA hrB hfB hbB hmB hxB hP hT
      exact pl_2 yA nA pA sA cA bA xA pAi mA cAi kB yB nB pB sB cB bB xB pBi mB cBi w K Z BB SS X b2 hS
  by_cases k4 : kA = 4
  · subst k4
    obtain ⟨K, Z, BB, SS, X, hS⟩ := bin1_any hft h3 h4 tv yv 4 yA nA _ sA bA xA pAi mA cAi kB yB nB _ sB bB xB pBi mB cBi w hrA hfA hbA hmA hxA hrB hfB hbB hmB hxB hP hT
    by_cases b2 : kB = 2
    · subst b2
      have hO := fun (W : World) (hx : Below w.heap.size w W) => both_two 4 yA nA _ sA bA xA pAi mA cAi 2 yB nB _ sB bB xB pBi mB cBi W (hrA.keep hx) hfA hbA hmA hxA (hrB.keep hx) hfB hbB hmB hxB _ _ rfl rfl
      cases hgA : goodP 4 yA nA sA bA xA mA with
      | false =>
        rw [hgA, Bool.false_and] at hO
        exact pl_strbad yA nA pA sA cA bA xA pAi mA cAi yB nB pB sB cB bB xB pBi mB cBi w K Z BB SS X hS hO
      | true =>
        cases hgB : goodP 2 yB nB sB bB xB mB with
        | false =>
          rw [hgB, Bool.and_false] at hO
          exact pl_strbad yA nA pA sA cA bA xA pAi mA cAi yB nB pB sB cB bB xB pBi mB cBi w K Z BB SS X hS hO
        | true =>
          rw [hgA, hgB] at hO
          exact plw_strs yA nA pA sA cA bA xA pAi mA cAi yB nB pB sB cB bB xB pBi mB cBi w hrA hfA hbA hmA hxA hrB hfB hbB hmB hxB hgA hgB K Z BB SS X hS hO
    · exact pl_4 yA nA pA sA cA bA xA pAi mA cAi kB yB nB pB sB cB bB xB pBi mB cBi w K Z BB SS X b2 hS
  · obtain ⟨K, Z, BB, SS, X, hS⟩ := bin1_any hft h3 h4 tv yv kA yA nA _ sA bA xA pAi mA cAi kB yB nB _ sB bB xB pBi mB cBi w hrA hfA hbA hmA hxA hrB hfB hbB hmB hxB hP hT
    exact pl_k kA yA nA pA sA cA bA xA pAi mA cAi kB yB nB pB sB cB bB xB pBi mB cBi w K Z BB SS X k1 k2 k4 hS
theorem law_plawsF {hiT loT T : Nat → Nat} (hft : TBF hiT loT T) (h3 : hiT 348 = 9223372036854775808) (h4 : loT 348 = 0) (tv : TypeId) (yv : Value) (kA : Int) (yA nA : Bool) (uA : Value) (sA : List Int) (bA : Nat) (xA : ByteArray) (pAi : Option Addr) (mA cAi : Nat) (kB : Int) (yB nB : Bool) (uB : Value) (sB : List Int) (bB : Nat) (xB : ByteArray) (pBi : Option Addr) (mB cBi : Nat) (w : World) (hrA : Rd w uA sA) (hrB : Rd w uB sB) (hfA : Fit sA) (hfB : Fit sB) (hbA : bA < 18446744073709551616) (hbB : bB < 18446744073709551616) (hmA : (mA : Int) ≤ 9223372036854775807) (hxA : (xA.size : Int) ≤ 9223372036854775807) (hmB : (mB : Int) ≤ 9223372036854775807) (hxB : (xB.size : Int) ≤ 9223372036854775807) (hP : P10R w) (hT : PFT hiT loT T tv yv w w.heap.size) :
    Calls Tryz.prog 3 #[.agg #[.int .i64 kA, .bool yA, .bool nA, uA, .int .u64 (bA : Int), .string xA, .slice pAi mA cAi], .agg #[.int .i64 kB, .bool yB, .bool nB, uB, .int .u64 (bB : Int), .string xB, .slice pBi mB cBi]] w fun e w' => e = .returned (.bool true) ∧ Below w.heap.size w w' :=
  law_plaws hft h3 h4 tv yv kA yA nA uA sA bA xA pAi mA cAi kB yB nB uB sB bB xB pBi mB cBi w hrA hfA hbA hmA hxA hrB hfB hbB hmB hxB hP hT
end Go.Proofs.YtpebnofjcodikaaGreatDoor
