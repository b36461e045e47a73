/- Layer 15: plain.Bin at Add of any values; Same of two ints, of two strings. -/
import Derived.Test.YtpebnofjcodikaaGreatDoorPPbB
import Derived.Test.YtpebnofjcodikaaGreatDoorPGOf
import Derived.Test.YtpebnofjcodikaaGreatDoorPGPlH

namespace Go.Proofs.YtpebnofjcodikaaGreatDoor
open Go Go.ChangeShapes Go.WideShapes Go.ChangeAt Go.RowKit
set_option linter.unusedVariables false
set_option linter.unusedSimpArgs false
theorem sgn_one : Sgn B18 false [1] 1 := by
  have h : Sgn B18 false [1] (sg false (val B18 [1])) := (goodB_sgn (neg := false) (ws := [1]) (by decide) (fun i => by cases i <;> simp)).1
  have e : sg false (val B18 [1]) = 1 := by decide
  rwa [e] at h
theorem num_whole {k : Int} (h : numP k = true) (h3 : k ≠ 3) : k = 1 ∨ k = 2 := by
  unfold numP at h
  simp at h
  omega
theorem good_kinds {k : Int} {y n : Bool} {ws : List Int} {b : Nat} {s : ByteArray} {m : Nat} (h : goodP k y n ws b s m = true) : k = 0 ∨ k = 1 ∨ k = 2 ∨ k = 3 ∨ k = 4 := by
  unfold goodP at h
  by_cases h0 : k = 0
  · exact .inl h0
  by_cases h1 : k = 1
  · exact .inr (.inl h1)
  by_cases h2 : k = 2
  · exact .inr (.inr (.inl h2))
  by_cases h3 : k = 3
  · exact .inr (.inr (.inr (.inl h3)))
  by_cases h4 : k = 4
  · exact .inr (.inr (.inr (.inr h4)))
  simp [h0, h1, h2, h3, h4] at h
theorem pat_pat (b : Nat) : patB (patB b) = patB b := by
  cases h : nanB b
  · have e : patB b = b := by unfold patB; rw [h]; rfl
    rw [e, e]
  · have e : patB b = fNaN := by unfold patB; rw [h]; rfl
    rw [e]; decide +kernel
/-- Every whole number has its row. -/
theorem zp_sgn {k : Int} {y n : Bool} {ws : List Int} {b : Nat} {s : ByteArray} {m : Nat} (hf : Fit ws) (hg : goodP k y n ws b s m = true) : ∃ n0 xs0, Sgn B18 n0 xs0 (zP k y n ws) := by
  unfold zP
  split
  · rename_i h2
    exact ⟨_, _, (goodB_sgn (good_k2 hg h2) hf).1⟩
  · split
    · exact ⟨false, [1], sgn_one⟩
    · exact ⟨false, [], sgn_nil⟩
theorem whole_num {k : Int} (h : wholeP k = true) : numP k = true := by
  unfold wholeP at h
  unfold numP
  rw [h]; simp
theorem whole_or {k : Int} (h : wholeP k = true) : k = 1 ∨ k = 2 := by
  unfold wholeP at h
  simpa using h
/-- toFloat of a number, in every world behind w. -/
theorem tofl_any {hiT loT T : Nat → Nat} (hft : TBF hiT loT T) (h3 : hiT 348 = 9223372036854775808) (h4 : loT 348 = 0) (tv : TypeId) (yv : Value) (kA : Int) (yA nA : Bool) (uA : Value) (sA : List Int) (bA : Nat) (xA : ByteArray) (pAi : Option Addr) (mA cAi : Nat) (w : World) (hrA : Rd w uA sA) (hfA : Fit sA) (hbA : bA < 18446744073709551616) (hmA : (mA : Int) ≤ 9223372036854775807) (hxA : (xA.size : Int) ≤ 9223372036854775807) (hgA : goodP kA yA nA sA bA xA mA = true) (hnA : numP kA = true) (hP : P10R w) (hT : PFT hiT loT T tv yv w w.heap.size) : ∃ B0 X0, (patB B0 = B0 ∧ B0 < 18446744073709551616) ∧ ∀ W, Below w.heap.size w W → Calls Tryz.prog 53 #[.agg #[.int .i64 kA, .bool yA, .bool nA, uA, .int .u64 (bA : Int), .string xA, .slice pAi mA cAi]] W (OfR B0 X0 W) := by
  by_cases h : kA = 3
  · subst h
    exact ⟨patB bA, 0, ⟨pat_pat bA, patB_lt hbA⟩, fun W hx => toFloat_f yA nA uA sA bA xA pAi mA cAi W hbA (hrA.keep hx) hfA hmA hxA⟩
  · have hk : kA = 1 ∨ kA = 2 := num_whole hnA h
    obtain ⟨n0, xs0, hs0⟩ := zp_sgn hfA hgA
    obtain ⟨B, X, hBB, ho⟩ := ofh_any hft h3 h4 tv yv n0 xs0 _ hs0
    exact ⟨B, X, hBB, fun W hx => toFloat_w kA yA nA uA sA bA xA pAi mA cAi W hbA (hrA.keep hx) hfA hmA hxA hk hgA ((ho w hP hT).keep hx)⟩
theorem bfl_any {hiT loT T : Nat → Nat} (hft : TBF hiT loT T) (h3 : hiT 348 = 9223372036854775808) (h4 : loT 348 = 0) (tv : TypeId) (yv : Value) (kA : Int) (yA nA : Bool) (uA : Value) (sA : List Int) (bA : Nat) (xA : ByteArray) (pAi : Option Addr) (mA cAi : Nat) (kB : Int) (yB nB : Bool) (uB : Value) (sB : List Int) (bB : Nat) (xB : ByteArray) (pBi : Option Addr) (mB cBi : Nat) (w : World) (hrA : Rd w uA sA) (hfA : Fit sA) (hbA : bA < 18446744073709551616) (hmA : (mA : Int) ≤ 9223372036854775807) (hxA : (xA.size : Int) ≤ 9223372036854775807) (hrB : Rd w uB sB) (hfB : Fit sB) (hbB : bB < 18446744073709551616) (hmB : (mB : Int) ≤ 9223372036854775807) (hxB : (xB.size : Int) ≤ 9223372036854775807) (BA : Nat) (XA : Int) (BB : Nat) (XB : Int) (htA : ∀ W, Below w.heap.size w W → Calls Tryz.prog 53 #[.agg #[.int .i64 kA, .bool yA, .bool nA, uA, .int .u64 (bA : Int), .string xA, .slice pAi mA cAi]] W (OfR BA XA W)) (htB : ∀ W, Below w.heap.size w W → Calls Tryz.prog 53 #[.agg #[.int .i64 kB, .bool yB, .bool nB, uB, .int .u64 (bB : Int), .string xB, .slice pBi mB cBi]] W (OfR BB XB W)) (W : World) (hx : Below w.heap.size w W) :
    Calls Tryz.prog 24 #[.int .i64 1, .agg #[.int .i64 kA, .bool yA, .bool nA, uA, .int .u64 (bA : Int), .string xA, .slice pAi mA cAi], .agg #[.int .i64 kB, .bool yB, .bool nB, uB, .int .u64 (bB : Int), .string xB, .slice pBi mB cBi]] W (ValT (if XA = 0 ∧ XB = 0 then 3 else 0) 0 (if XA = 0 ∧ XB = 0 then addB BA BB else 0) ⟨#[]⟩ (if XA = 0 then XB else XA) W) := by
  have tA := fun W' (h : Below W.heap.size W W') => htA W' (hx.trans (h.mono hx.size))
  have tB := fun W' (h : Below W.heap.size W W') => htB W' (hx.trans (h.mono hx.size))
  by_cases h1 : XA = 0
  · by_cases h2 : XB = 0
    · rw [if_pos ⟨h1, h2⟩, if_pos ⟨h1, h2⟩, if_pos h1, h2]
      exact bf_ok kA yA nA uA sA bA xA pAi mA cAi kB yB nB uB sB bB xB pBi mB cBi W (hrA.keep hx) hfA hbA hmA hxA (hrB.keep hx) hfB hbB hmB hxB BA XA BB XB tA tB h1 h2
    · rw [if_neg (fun h => h2 h.2), if_neg (fun h => h2 h.2), if_pos h1]
      exact bf_eB kA yA nA uA sA bA xA pAi mA cAi kB yB nB uB sB bB xB pBi mB cBi W (hrA.keep hx) hfA hbA hmA hxA (hrB.keep hx) hfB hbB hmB hxB BA XA BB XB tA tB h1 h2
  · rw [if_neg (fun h => h1 h.1), if_neg (fun h => h1 h.1), if_neg h1]
    exact bf_eA kA yA nA uA sA bA xA pAi mA cAi kB yB nB uB sB bB xB pBi mB cBi W (hrA.keep hx) hfA hbA hmA hxA (hrB.keep hx) hfB hbB hmB hxB BA XA BB XB tA tB h1
/-- Add of a whole number zA and any value: told by zA alone. -/
theorem bin1_w {hiT loT T : Nat → Nat} (hft : TBF hiT loT T) (h3 : hiT 348 = 9223372036854775808) (h4 : loT 348 = 0) (tv : TypeId) (yv : Value) (zA : Int) (n0 : Bool) (xs0 : List Int) (hs0 : Sgn B18 n0 xs0 zA) (kB : Int) (yB nB : Bool) (uB : Value) (sB : List Int) (bB : Nat) (xB : ByteArray) (pBi : Option Addr) (mB cBi : Nat) (w : World) (hrB : Rd w uB sB) (hfB : Fit sB) (hbB : bB < 18446744073709551616) (hmB : (mB : Int) ≤ 9223372036854775807) (hxB : (xB.size : Int) ≤ 9223372036854775807) (hP : P10R w) (hT : PFT hiT loT T tv yv w w.heap.size) : ∃ K Z BB X, ∀ (kA : Int) (yA nA : Bool) (uA : Value) (sA : List Int) (bA : Nat) (xA : ByteArray) (pAi : Option Addr) (mA cAi : Nat) (W : World), Below w.heap.size w W → Rd W uA sA → Fit sA → bA < 18446744073709551616 → (mA : Int) ≤ 9223372036854775807 → (xA.size : Int) ≤ 9223372036854775807 → goodP kA yA nA sA bA xA mA = true → wholeP kA = true → zP kA yA nA sA = zA → Calls Tryz.prog 5 #[.int .i64 1, .agg #[.int .i64 kA, .bool yA, .bool nA, uA, .int .u64 (bA : Int), .string xA, .slice pAi mA cAi], .agg #[.int .i64 kB, .bool yB, .bool nB, uB, .int .u64 (bB : Int), .string xB, .slice pBi mB cBi]] W (ValT K Z BB ⟨#[]⟩ X W) := by
  cases hgB : goodP kB yB nB sB bB xB mB with
  | false => exact ⟨0, 0, 0, 3, fun kA yA nA uA sA bA xA pAi mA cAi W hx hrA hfA hbA hmA hxA hgA hwA hzA => bin_badB 1 kA yA nA uA sA bA xA pAi mA cAi kB yB nB uB sB bB xB pBi mB cBi W hrA hfA hbA hmA hxA (hrB.keep hx) hfB hbB hmB hxB hgA hgB⟩
  | true =>
    cases hnB : numP kB with
    | false => exact ⟨0, 0, 0, 9, fun kA yA nA uA sA bA xA pAi mA cAi W hx hrA hfA hbA hmA hxA hgA hwA hzA => bin_typw kA yA nA uA sA bA xA pAi mA cAi kB yB nB uB sB bB xB pBi mB cBi W hrA hfA hbA hmA hxA (hrB.keep hx) hfB hbB hmB hxB hgA hgB hwA hnB⟩
    | true =>
      cases hwB : wholeP kB with
      | true =>
        by_cases hz : Small (zA + zP kB yB nB sB)
        · exact ⟨2, zA + zP kB yB nB sB, 0, 0, fun kA yA nA uA sA bA xA pAi mA cAi W hx hrA hfA hbA hmA hxA hgA hwA hzA => bin_w 1 kA yA nA uA sA bA xA pAi mA cAi kB yB nB uB sB bB xB pBi mB cBi W hrA hfA hbA hmA hxA (hrB.keep hx) hfB hbB hmB hxB hgA hgB hwA hwB (by decide) (by decide) _ _ _ _ (fun n1 u1 xs n2 u2 ys W' r1 r2 g1 g2 l1 l2 => bw1_ok n1 u1 xs zA n2 u2 ys _ W' r1 r2 (hzA ▸ g1) g2 l1 l2 hz)⟩
        · exact ⟨0, 0, 0, 7, fun kA yA nA uA sA bA xA pAi mA cAi W hx hrA hfA hbA hmA hxA hgA hwA hzA => bin_w 1 kA yA nA uA sA bA xA pAi mA cAi kB yB nB uB sB bB xB pBi mB cBi W hrA hfA hbA hmA hxA (hrB.keep hx) hfB hbB hmB hxB hgA hgB hwA hwB (by decide) (by decide) _ _ _ _ (fun n1 u1 xs n2 u2 ys W' r1 r2 g1 g2 l1 l2 => bw1_no n1 u1 xs zA n2 u2 ys _ W' r1 r2 (hzA ▸ g1) g2 l1 l2 hz)⟩
      | false =>
        obtain ⟨BA, XA, _, ho⟩ := ofh_any hft h3 h4 tv yv n0 xs0 _ hs0
        have HO := ho w hP hT
        obtain ⟨BB, XB, _, htB⟩ := tofl_any hft h3 h4 tv yv kB yB nB uB sB bB xB pBi mB cBi w hrB hfB hbB hmB hxB hgB hnB hP hT
        exact ⟨_, _, _, _, fun kA yA nA uA sA bA xA pAi mA cAi W hx hrA hfA hbA hmA hxA hgA hwA hzA => bin_f kA yA nA uA sA bA xA pAi mA cAi kB yB nB uB sB bB xB pBi mB cBi W hrA hfA hbA hmA hxA (hrB.keep hx) hfB hbB hmB hxB hgA hgB (whole_num hwA) hnB (by rw [hwB, Bool.and_false]) _ _ _ _ (fun W' hx' => bfl_any hft h3 h4 tv yv kA yA nA uA sA bA xA pAi mA cAi kB yB nB uB sB bB xB pBi mB cBi W hrA hfA hbA hmA hxA (hrB.keep hx) hfB hbB hmB hxB BA XA BB XB (fun V hv => toFloat_w kA yA nA uA sA bA xA pAi mA cAi V hbA (hrA.keep hv) hfA hmA hxA (whole_or hwA) hgA (by rw [hzA]; exact HO.keep (hx.trans (hv.mono hx.size)))) (fun V hv => htB V (hx.trans (hv.mono hx.size))) W' hx')⟩
/-- Add of any two values: some value, some error. -/
theorem bin1_any {hiT loT T : Nat → Nat} (hft : TBF hiT loT T) (h3 : hiT 348 = 9223372036854775808) (h4 : loT 348 = 0) (tv : TypeId) (yv : Value) (kA : Int) (yA nA : Bool) (uA : Value) (sA : List Int) (bA : Nat) (xA : ByteArray) (pAi : Option Addr) (mA cAi : Nat) (kB : Int) (yB nB : Bool) (uB : Value) (sB : List Int) (bB : Nat) (xB : ByteArray) (pBi : Option Addr) (mB cBi : Nat) (w : World) (hrA : Rd w uA sA) (hfA : Fit sA) (hbA : bA < 18446744073709551616) (hmA : (mA : Int) ≤ 9223372036854775807) (hxA : (xA.size : Int) ≤ 9223372036854775807) (hrB : Rd w uB sB) (hfB : Fit sB) (hbB : bB < 18446744073709551616) (hmB : (mB : Int) ≤ 9223372036854775807) (hxB : (xB.size : Int) ≤ 9223372036854775807) (hP : P10R w) (hT : PFT hiT loT T tv yv w w.heap.size) : ∃ K Z BB SS X, ∀ W, Below w.heap.size w W → Calls Tryz.prog 5 #[.int .i64 1, .agg #[.int .i64 kA, .bool yA, .bool nA, uA, .int .u64 (bA : Int), .string xA, .slice pAi mA cAi], .agg #[.int .i64 kB, .bool yB, .bool nB, uB, .int .u64 (bB : Int), .string xB, .slice pBi mB cBi]] W (ValT K Z BB SS X W) := by
  cases hgA : goodP kA yA nA sA bA xA mA with
  | false => exact ⟨0, 0, 0, ⟨#[]⟩, 3, fun W hx => bin_badA 1 kA yA nA uA sA bA xA pAi mA cAi kB yB nB uB sB bB xB pBi mB cBi W (hrA.keep hx) hfA hbA hmA hxA (hrB.keep hx) hfB hbB hmB hxB hgA⟩
  | true =>
    cases hgB : goodP kB yB nB sB bB xB mB with
    | false => exact ⟨0, 0, 0, ⟨#[]⟩, 3, fun W hx => bin_badB 1 kA yA nA uA sA bA xA pAi mA cAi kB yB nB uB sB bB xB pBi mB cBi W (hrA.keep hx) hfA hbA hmA hxA (hrB.keep hx) hfB hbB hmB hxB hgA hgB⟩
    | true =>
      cases hwA : wholeP kA with
      | true =>
        obtain ⟨n0, xs0, hs0⟩ := zp_sgn hfA hgA
        obtain ⟨K, Z, BB, X, h⟩ := bin1_w hft h3 h4 tv yv _ n0 xs0 hs0 kB yB nB uB sB bB xB pBi mB cBi w hrB hfB hbB hmB hxB hP hT
        exact ⟨K, Z, BB, ⟨#[]⟩, X, fun W hx => h kA yA nA uA sA bA xA pAi mA cAi W hx (hrA.keep hx) hfA hbA hmA hxA hgA hwA rfl⟩
      | false =>
        rcases good_kinds hgA with rfl | rfl | rfl | rfl | rfl
        · exact ⟨0, 0, 0, ⟨#[]⟩, 9, fun W hx => bin_typ0 yA nA uA sA bA xA pAi mA cAi kB yB nB uB sB bB xB pBi mB cBi W (hrA.keep hx) hfA hbA hmA hxA (hrB.keep hx) hfB hbB hmB hxB hgA hgB⟩
        · cases hwA
        · cases hwA
        · cases hnB : numP kB with
          | false => exact ⟨0, 0, 0, ⟨#[]⟩, 9, fun W hx => bin_typ3 yA nA uA sA bA xA pAi mA cAi kB yB nB uB sB bB xB pBi mB cBi W (hrA.keep hx) hfA hbA hmA hxA (hrB.keep hx) hfB hbB hmB hxB hgA hgB hnB⟩
          | true =>
            obtain ⟨BA, XA, _, htA⟩ := tofl_any hft h3 h4 tv yv 3 yA nA uA sA bA xA pAi mA cAi w hrA hfA hbA hmA hxA hgA (by decide) hP hT
            obtain ⟨BB, XB, _, htB⟩ := tofl_any hft h3 h4 tv yv kB yB nB uB sB bB xB pBi mB cBi w hrB hfB hbB hmB hxB hgB hnB hP hT
            exact ⟨_, _, _, ⟨#[]⟩, _, fun W hx => bin_f 3 yA nA uA sA bA xA pAi mA cAi kB yB nB uB sB bB xB pBi mB cBi W (hrA.keep hx) hfA hbA hmA hxA (hrB.keep hx) hfB hbB hmB hxB hgA hgB (by decide) hnB (by simp [wholeP]) _ _ _ _ (fun W' hx' => bfl_any hft h3 h4 tv yv 3 yA nA uA sA bA xA pAi mA cAi kB yB nB uB sB bB xB pBi mB cBi W (hrA.keep hx) hfA hbA hmA hxA (hrB.keep hx) hfB hbB hmB hxB BA XA BB XB (fun V hv => htA V (hx.trans (hv.mono hx.size))) (fun V hv => htB V (hx.trans (hv.mono hx.size))) W' hx')⟩
        · by_cases h44 : kB = 4
          · subst h44
            by_cases hl : xA.size + xB.size ≤ 20000
            · exact ⟨4, 0, 0, xA ++ xB, 0, fun W hx => bin_ss yA nA uA sA bA xA pAi mA cAi yB nB uB sB bB xB pBi mB cBi W (hrA.keep hx) hfA hbA hmA hxA (hrB.keep hx) hfB hbB hmB hxB hgA hgB hl⟩
            · exact ⟨0, 0, 0, ⟨#[]⟩, 2, fun W hx => bin_sslong yA nA uA sA bA xA pAi mA cAi yB nB uB sB bB xB pBi mB cBi W (hrA.keep hx) hfA hbA hmA hxA (hrB.keep hx) hfB hbB hmB hxB hgA hgB (by omega)⟩
          · exact ⟨0, 0, 0, ⟨#[]⟩, 9, fun W hx => bin_typ4 yA nA uA sA bA xA pAi mA cAi kB yB nB uB sB bB xB pBi mB cBi W (hrA.keep hx) hfA hbA hmA hxA (hrB.keep hx) hfB hbB hmB hxB hgA hgB h44⟩
theorem pre3 (w : World) (v0 v1 v2 v3 v4 v5 v6 t0 t1 t2 t3 t4 t5 t6 : Value) : ∃ W1, (w.alloc (.cells #[v0, v1, v2, v3, v4, v5, v6] 28)).alloc (.cells #[t0, t1, t2, t3, t4, t5, t6] 28) = W1 ∧ Hid (Below w.heap.size w W1) ∧ Hid (Bx7 W1 w.heap.size v0 v1 v2 v3 v4 v5 v6) ∧ Hid (Bx7 W1 (w.heap.size + 1) t0 t1 t2 t3 t4 t5 t6) :=
  ⟨_, rfl, ((Below.refl _ _).alloc (Nat.le_refl _) _).alloc (by simp) _, (Bx7.new w _ _ _ _ _ _ _ _ rfl).keep ((Below.refl _ _).alloc (Nat.le_refl _) _), Bx7.new _ _ _ _ _ _ _ _ _ (by simp)⟩
theorem keep3all {w cur new : World} {A B : Nat} {v0 v1 v2 v3 v4 v5 v6 t0 t1 t2 t3 t4 t5 t6 u u' : Value} {ws ws' : List Int} (h : Below cur.heap.size cur new) (h1 : Hid (Below w.heap.size w cur)) (h2 : Hid (Bx7 cur A v0 v1 v2 v3 v4 v5 v6)) (h3 : Hid (Bx7 cur B t0 t1 t2 t3 t4 t5 t6)) (h5 : Hid (Rd cur u ws)) (h6 : Hid (Rd cur u' ws')) : Hid (Below w.heap.size w new) ∧ Hid (Bx7 new A v0 v1 v2 v3 v4 v5 v6) ∧ Hid (Bx7 new B t0 t1 t2 t3 t4 t5 t6) ∧ Hid (Rd new u ws) ∧ Hid (Rd new u' ws') ∧ Bx7 new A v0 v1 v2 v3 v4 v5 v6 ∧ Bx7 new B t0 t1 t2 t3 t4 t5 t6 :=
  ⟨h1.out.trans (h.mono h1.out.size), h2.out.keep h, h3.out.keep h, h5.out.keep h, h6.out.keep h, h2.out.keep h, h3.out.keep h⟩
theorem good2_y {k : Int} {y n : Bool} {ws : List Int} {b : Nat} {s : ByteArray} {m : Nat} (h : goodP k y n ws b s m = true) (h1 : k ≠ 1) : y = false := by
  have h3 : bad3 k y b s = false := by
    cases hb : bad3 k y b s
    · rfl
    · rw [goodP_bad hb] at h; cases h
  unfold bad3 at h3
  rw [show (k != 1) = true by simpa using h1] at h3
  cases y
  · rfl
  · simp at h3
theorem good_s {s : ByteArray} (h : s.size ≤ 20000) : goodP 4 false false [] 0 s 0 = true := by
  unfold goodP badP
  simp [h]
theorem good_sz {n : Bool} {ws : List Int} {s : ByteArray} (hs : Sgn B18 n ws 0) (h : s.size ≤ 20000) : goodP 4 false n ws 0 s 0 = true := by
  obtain ⟨rfl, rfl⟩ := hs.uniq (by decide) sgn_nil
  exact good_s h
theorem cmpI_self (z : Int) : cmpI z z = 0 := by unfold cmpI; simp
set_option maxRecDepth 100000 in
set_option maxHeartbeats 8000000 in
theorem same_two (k : Int) (yA nA : Bool) (uA : Value) (sA : List Int) (bA : Nat) (xA : ByteArray) (pAi : Option Addr) (mA cAi : Nat) (yB nB : Bool) (uB : Value) (sB : List Int) (bB : Nat) (xB : ByteArray) (pBi : Option Addr) (mB cBi : Nat) (w : World) (hrA : Rd w uA sA) (hfA : Fit sA) (hbA : bA < 18446744073709551616) (hmA : (mA : Int) ≤ 9223372036854775807) (hxA : (xA.size : Int) ≤ 9223372036854775807) (hrB : Rd w uB sB) (hfB : Fit sB) (hbB : bB < 18446744073709551616) (hmB : (mB : Int) ≤ 9223372036854775807) (hxB : (xB.size : Int) ≤ 9223372036854775807) (hgA : goodP k yA nA sA bA xA mA = true) (hgB : goodP k yB nB sB bB xB mB = true) (hk : k = 2 ∨ k = 4) (hxe : (xA.toList == xB.toList) = true) (z : Int) (hsA : Sgn B18 nA sA z) (hsB : Sgn B18 nB sB z) (hlA : sA.length ≤ 30) (hlB : sB.length ≤ 30) :
    Calls Tryz.prog 6 #[.agg #[.int .i64 k, .bool yA, .bool nA, uA, .int .u64 (bA : Int), .string xA, .slice pAi mA cAi], .agg #[.int .i64 k, .bool yB, .bool nB, uB, .int .u64 (bB : Int), .string xB, .slice pBi mB cBi]] w fun e w' => e = .returned (.bool true) ∧ Below w.heap.size w w' := by
  obtain ⟨pA, cA, rfl, hcA, hvA, hpA⟩ := rd_form hrA
  obtain ⟨pB, cB, rfl, hcB, hvB, hpB⟩ := rd_form hrB
  obtain ⟨W1, hW1, HB, HXA, HXB⟩ := pre3 w (.int .i64 k) (.bool yA) (.bool nA) (.slice pA sA.length cA) (.int .u64 (bA : Int)) (.string xA) (.slice pAi mA cAi) (.int .i64 k) (.bool yB) (.bool nB) (.slice pB sB.length cB) (.int .u64 (bB : Int)) (.string xB) (.slice pBi mB cBi)
  have HRA := Lib.hid (hrA.keep HB.out)
  have HRB := Lib.hid (hrB.keep HB.out)
  have hye : (yA == yB) = true := by rw [good2_y hgA (by omega), good2_y hgB (by omega)]; rfl
  have HGA := Lib.hid (fun (W : World) (hx : Rd W (.slice pA sA.length cA) sA) => good15_any k yA nA _ sA bA xA pAi mA cAi W hbA hx hfA hmA hxA)
  rw [hgA] at HGA
  have HGB := Lib.hid (fun (W : World) (hx : Rd W (.slice pB sB.length cB) sB) => good15_any k yB nB _ sB bB xB pBi mB cBi W hbB hx hfB hmB hxB)
  rw [hgB] at HGB
  have q1 : (k != k) = false := by simp
  have q3 : (k == 3) = false := by rcases hk with rfl | rfl <;> rfl
  have HC := Lib.hid (fun (W : World) (h1 : Rd W (.slice pA sA.length cA) sA) (h2 : Rd W (.slice pB sB.length cB) sB) => cmp_at (W := W) h1 h2 hsA hsB hlA hlB (Below.refl _ _))
  rw [cmpI_self] at HC
  clear hrA hrB hfA hfB hpA hpB hbA hbB hmA hmB hxA hxB hgA hgB hk hsA hsB hlA hlB
  obtain ⟨fa0, fa1, fa2, fa3, fa4, fa5, fa6⟩ := HXA.out
  obtain ⟨fd0, fd1, fd2, fd3, fd4, fd5, fd6⟩ := HXB.out
  go_enter Tryz.func6, Tryz.ntmps6
  go_wp2_with (first
    | (go_at_call 19; (try rw [hW1]); (with_reducible refine (HGA.out _ HRA.out).mono ?_); rintro e vn ⟨rfl, hvv⟩; obtain ⟨HB, HXA, HXB, HRA, HRB, ⟨fa0, fa1, fa2, fa3, fa4, fa5, fa6⟩, fd0, fd1, fd2, fd3, fd4, fd5, fd6⟩ := keep3all hvv HB HXA HXB HRA HRB; clear hvv)
    | (go_at_call 19; (try rw [hW1]); (with_reducible refine (HGB.out _ HRB.out).mono ?_); rintro e vn ⟨rfl, hvv⟩; obtain ⟨HB, HXA, HXB, HRA, HRB, ⟨fa0, fa1, fa2, fa3, fa4, fa5, fa6⟩, fd0, fd1, fd2, fd3, fd4, fd5, fd6⟩ := keep3all hvv HB HXA HXB HRA HRB; clear hvv)
    | (go_at_call 27; (try rw [hW1]); (with_reducible refine (HC.out _ HRA.out HRB.out).mono ?_); rintro e vn ⟨rfl, hvv⟩; obtain ⟨HB, HXA, HXB, HRA, HRB, ⟨fa0, fa1, fa2, fa3, fa4, fa5, fa6⟩, fd0, fd1, fd2, fd3, fd4, fd5, fd6⟩ := keep3all hvv HB HXA HXB HRA HRB; clear hvv)
    | fail)
  go_ret
  exact ⟨by rfl, HB.out⟩
set_option maxRecDepth 100000 in
set_option maxHeartbeats 8000000 in
theorem bin3_typ (yA nA : Bool) (uA : Value) (sA : List Int) (bA : Nat) (xA : ByteArray) (pAi : Option Addr) (mA cAi : Nat) (kB : Int) (yB nB : Bool) (uB : Value) (sB : List Int) (bB : Nat) (xB : ByteArray) (pBi : Option Addr) (mB cBi : Nat) (w : World) (hrA : Rd w uA sA) (hfA : Fit sA) (hbA : bA < 18446744073709551616) (hmA : (mA : Int) ≤ 9223372036854775807) (hxA : (xA.size : Int) ≤ 9223372036854775807) (hrB : Rd w uB sB) (hfB : Fit sB) (hbB : bB < 18446744073709551616) (hmB : (mB : Int) ≤ 9223372036854775807) (hxB : (xB.size : Int) ≤ 9223372036854775807) (hgA : goodP 4 yA nA sA bA xA mA = true) (hgB : goodP kB yB nB sB bB xB mB = true) (hnB : numP kB = false) (h4 : kB ≠ 4) :
    Calls Tryz.prog 5 #[.int .i64 3, .agg #[.int .i64 4, .bool yA, .bool nA, uA, .int .u64 (bA : Int), .string xA, .slice pAi mA cAi], .agg #[.int .i64 kB, .bool yB, .bool nB, uB, .int .u64 (bB : Int), .string xB, .slice pBi mB cBi]] w (ValT 0 0 0 ⟨#[]⟩ 9 w) := by
  obtain ⟨pA, cA, rfl, hcA, hvA, hpA⟩ := rd_form hrA
  obtain ⟨pB, cB, rfl, hcB, hvB, hpB⟩ := rd_form hrB
  obtain ⟨W1, hW1, HB, HXA, HXB, HV, HLT⟩ := pre2 w (.int .i64 4) (.bool yA) (.bool nA) (.slice pA sA.length cA) (.int .u64 (bA : Int)) (.string xA) (.slice pAi mA cAi) (.int .i64 kB) (.bool yB) (.bool nB) (.slice pB sB.length cB) (.int .u64 (bB : Int)) (.string xB) (.slice pBi mB cBi)
  have HRA := Lib.hid (hrA.keep HB.out)
  have HRB := Lib.hid (hrB.keep HB.out)
  have HGA := Lib.hid (fun (W : World) (hx : Rd W (.slice pA sA.length cA) sA) => good15_any 4 yA nA _ sA bA xA pAi mA cAi W hbA hx hfA hmA hxA)
  rw [hgA] at HGA
  have HGB := Lib.hid (fun (W : World) (hx : Rd W (.slice pB sB.length cB) sB) => good15_any kB yB nB _ sB bB xB pBi mB cBi W hbB hx hfB hmB hxB)
  rw [hgB] at HGB
  have HWA := Lib.hid (fun (W : World) => isWhole_any 4 yA nA (.slice pA sA.length cA) bA xA (.slice pAi mA cAi) W)
  rw [show wholeP 4 = false from (by decide)] at HWA
  have HNA := Lib.hid (fun (W : World) => isNumber_any 4 yA nA (.slice pA sA.length cA) bA xA (.slice pAi mA cAi) W)
  rw [show numP 4 = false from (by decide)] at HNA
  have HWB := Lib.hid (fun (W : World) => isWhole_any kB yB nB (.slice pB sB.length cB) bB xB (.slice pBi mB cBi) W)
  rw [show wholeP kB = false from (by have h := hnB; unfold numP at h; unfold wholeP; revert h; cases (kB == 3) <;> simp)] at HWB
  have q4 : (kB == 4) = false := by simpa using h4
  clear hrA hrB hfA hfB hpA hpB hbA hbB hmA hmB hxA hxB hgA hgB hnB h4
  obtain ⟨fa0, fa1, fa2, fa3, fa4, fa5, fa6⟩ := HXA.out
  obtain ⟨fd0, fd1, fd2, fd3, fd4, fd5, fd6⟩ := HXB.out
  go_enter Tryz.func5, Tryz.ntmps5
  go_wp2_with (first
    | (go_at_call 19; (try rw [hW1]); (with_reducible refine (HGA.out _ HRA.out).mono ?_); rintro e vn ⟨rfl, hvv⟩; obtain ⟨HB, HXA, HXB, HV, HRA, HRB, ⟨fa0, fa1, fa2, fa3, fa4, fa5, fa6⟩, fd0, fd1, fd2, fd3, fd4, fd5, fd6⟩ := keep2all hvv HB HXA HXB HV HRA HRB; clear hvv)
    | (go_at_call 19; (try rw [hW1]); (with_reducible refine (HGB.out _ HRB.out).mono ?_); rintro e vn ⟨rfl, hvv⟩; obtain ⟨HB, HXA, HXB, HV, HRA, HRB, ⟨fa0, fa1, fa2, fa3, fa4, fa5, fa6⟩, fd0, fd1, fd2, fd3, fd4, fd5, fd6⟩ := keep2all hvv HB HXA HXB HV HRA HRB; clear hvv)
    | (go_at_call 20; (try rw [hW1]); (with_reducible refine (HWA.out _).mono ?_); rintro e vn ⟨rfl, hvv⟩; obtain ⟨HB, HXA, HXB, HV, HRA, HRB, ⟨fa0, fa1, fa2, fa3, fa4, fa5, fa6⟩, fd0, fd1, fd2, fd3, fd4, fd5, fd6⟩ := keep2all hvv HB HXA HXB HV HRA HRB; clear hvv)
    | (go_at_call 23; (try rw [hW1]); (with_reducible refine (HNA.out _).mono ?_); rintro e vn ⟨rfl, hvv⟩; obtain ⟨HB, HXA, HXB, HV, HRA, HRB, ⟨fa0, fa1, fa2, fa3, fa4, fa5, fa6⟩, fd0, fd1, fd2, fd3, fd4, fd5, fd6⟩ := keep2all hvv HB HXA HXB HV HRA HRB; clear hvv)
    | (go_at_call 20; (try rw [hW1]); (with_reducible refine (HWB.out _).mono ?_); rintro e vn ⟨rfl, hvv⟩; obtain ⟨HB, HXA, HXB, HV, HRA, HRB, ⟨fa0, fa1, fa2, fa3, fa4, fa5, fa6⟩, fd0, fd1, fd2, fd3, fd4, fd5, fd6⟩ := keep2all hvv HB HXA HXB HV HRA HRB; obtain ⟨⟨vc0, vc1, vc2, vc3, vc4, vc5, vc6⟩, vf0, vf1, vf2, vf3, vf4, vf5, vf6⟩ := HV.out; clear hvv)
    | fail)
  obtain ⟨z7, zb⟩ := fin7b HV HB (.int .i64 0) (.bool false) (.bool false) (.slice none 0 0) (.int .u64 0) (.string ⟨#[]⟩) (.slice none 0 0)
  unfold put7 at z7 zb
  exact bodyPost_ret (v := .tuple #[.agg #[.int .i64 0, .bool false, .bool false, .slice none 0 0, .int .u64 0, .string ⟨#[]⟩, .slice none 0 0], .int .i64 9]) (by simp [results, Tryz.results5, go_sem, z7.c0, z7.c1, z7.c2, z7.c3, z7.c4, z7.c5, z7.c6]) rfl (valt_none zb)
theorem rep_len (s : ByteArray) (n : Nat) : (repT s n).size = n * s.size := by
  unfold repT
  show (Lib.repeatL s.data.toList n).toArray.size = _
  rw [List.size_toArray, Lib.repeatL_length, Array.length_toList]; rfl
theorem repeatL_comm (l : List UInt8) : ∀ n, Lib.repeatL l n ++ l = l ++ Lib.repeatL l n
  | 0 => by simp [Lib.repeatL]
  | n + 1 => by
    show (l ++ Lib.repeatL l n) ++ l = l ++ (l ++ Lib.repeatL l n)
    rw [List.append_assoc, repeatL_comm l n]
theorem rep_succ (s : ByteArray) (n : Nat) : (repT s (n + 1)).toList = (repT s n ++ s).toList := by
  have h1 : ∀ t : ByteArray, t.toList = t.data.toList := fun t => by rw [Lib.toList_data]
  rw [h1, h1, ByteArray.data_append, Array.toList_append]
  show Lib.repeatL s.data.toList (n + 1) = Lib.repeatL s.data.toList n ++ s.data.toList
  exact (repeatL_comm _ n).symm
end Go.Proofs.YtpebnofjcodikaaGreatDoor
