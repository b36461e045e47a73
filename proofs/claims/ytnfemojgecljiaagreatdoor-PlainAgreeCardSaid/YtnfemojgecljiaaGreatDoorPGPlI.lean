/- Layer 15: the order of two strings, byte by byte; a string's hash. Layer 15: Equal, Order, Same: the document's, of plain values in form. -/
import Derived.Test.YtnfemojgecljiaaGreatDoorPGPlG
import Derived.Lib.Bytealg
import Derived.PlainAid
import Derived.LoopTactic
import Derived.Test.YtnfemojgecljiaaGreatDoorPGWa
namespace Go.Proofs.YtnfemojgecljiaaGreatDoor
section
open Go Go.ChangeShapes Go.WideShapes Go.ChangeAt Go.RowKit Go.PlainAid
set_option linter.unusedVariables false
set_option linter.unusedSimpArgs false
theorem btl (s : ByteArray) {k : Nat} (h : k < s.size) : ∃ c : UInt8, s.data.toList[k]? = some c ∧ bt s k = (c.toNat : Int) := by
  refine ⟨s[k]'h, ?_, ?_⟩
  · rw [List.getElem?_eq_getElem (by simpa using h)]; rfl
  · unfold bt; rw [dif_pos h]
theorem drop_bt (s : ByteArray) {k : Nat} (h : k < s.size) : ∃ c : UInt8, s.data.toList.drop k = c :: s.data.toList.drop (k + 1) ∧ bt s k = (c.toNat : Int) := by
  obtain ⟨c, h1, h2⟩ := btl s h
  refine ⟨c, ?_, h2⟩
  have hl : k < s.data.toList.length := by simpa using h
  rw [List.drop_eq_getElem_cons hl]
  congr 1
  rw [List.getElem?_eq_getElem hl] at h1
  exact Option.some.inj h1
theorem drop_end (s : ByteArray) {k : Nat} (h : s.size ≤ k) : s.data.toList.drop k = [] := List.drop_eq_nil_of_le (by simpa using h)
/-- One step of the comparison. -/
theorem cmp_step (a b : ByteArray) {k : Nat} (ha : k < a.size) (hb : k < b.size) :
    Lib.compareBytes (a.data.toList.drop k) (b.data.toList.drop k) = if bt a k < bt b k then -1 else if bt b k < bt a k then 1 else Lib.compareBytes (a.data.toList.drop (k + 1)) (b.data.toList.drop (k + 1)) := by
  obtain ⟨c, h1, h2⟩ := drop_bt a ha
  obtain ⟨d, h3, h4⟩ := drop_bt b hb
  rw [h1, h3, h2, h4]
  show (if c < d then (-1 : Int) else if d < c then 1 else _) = _
  have e1 : c < d ↔ (c.toNat : Int) < (d.toNat : Int) := by rw [UInt8.lt_iff_toNat_lt]; omega
  have e2 : d < c ↔ (d.toNat : Int) < (c.toNat : Int) := by rw [UInt8.lt_iff_toNat_lt]; omega
  by_cases g1 : c < d
  · rw [if_pos g1, if_pos (e1.1 g1)]
  · rw [if_neg g1, if_neg (fun h => g1 (e1.2 h))]
    by_cases g2 : d < c
    · rw [if_pos g2, if_pos (e2.1 g2)]
    · rw [if_neg g2, if_neg (fun h => g2 (e2.2 h))]
theorem cmp_end (a b : ByteArray) {k : Nat} (hka : k ≤ a.size) (hkb : k ≤ b.size) (h : a.size ≤ k ∨ b.size ≤ k) :
    Lib.compareBytes (a.data.toList.drop k) (b.data.toList.drop k) = if a.size < b.size then -1 else if b.size < a.size then 1 else 0 := by
  by_cases ha : a.size ≤ k
  · rw [drop_end a ha]
    by_cases hb : b.size ≤ k
    · rw [drop_end b hb, if_neg (by omega), if_neg (by omega)]; rfl
    · obtain ⟨d, h3, _⟩ := drop_bt b (show k < b.size by omega)
      rw [h3, if_pos (by omega)]; rfl
  · obtain ⟨c, h1, _⟩ := drop_bt a (show k < a.size by omega)
    rw [h1, drop_end b (by omega), if_neg (by omega), if_pos (by omega)]; rfl
set_option maxRecDepth 100000 in
set_option maxHeartbeats 4000000 in
theorem bytes_any (a b : ByteArray) (w : World) (ha : (a.size : Int) ≤ 9223372036854775807) (hb : (b.size : Int) ≤ 9223372036854775807) : Calls Tryz.prog 33 #[.string a, .string b] w fun e w' => e = .returned (.int .i64 (Lib.compareBytes a.data.toList b.data.toList)) ∧ Below w.heap.size w w' := by
  have hga := get_bt a
  have hgb := get_bt b
  obtain ⟨C, hC⟩ : ∃ C, Lib.compareBytes a.data.toList b.data.toList = C := ⟨_, rfl⟩
  rw [hC]
  have HC := Lib.hid hC
  clear hC
  go_enter Tryz.func33, Tryz.ntmps33
  go_wp2_with fail
  go_loopw [5] (fun iv wr => ∃ i : Nat, iv = .int .i64 i ∧ i ≤ a.size ∧ i ≤ b.size ∧ Lib.compareBytes (a.data.toList.drop i) (b.data.toList.drop i) = C ∧ Below w.heap.size w wr) (fun iv wr => a.size - (RowKit.intOf iv).toNat)
  case atStart => exact ⟨0, by go_num, by omega, by omega, by rw [List.drop_zero, List.drop_zero]; exact HC.out, Below.refl _ _⟩
  case round =>
    obtain ⟨i, rfl, hia, hib, hcc, hbw⟩ := hrel
    have HBW := Lib.hid hbw
    obtain ⟨w5, rfl⟩ : ∃ w5 : World, w5 = wr := ⟨_, rfl⟩
    clear hbw
    have HCC := Lib.hid hcc
    clear hcc
    by_cases hlt : i < a.size ∧ i < b.size
    · obtain ⟨h1, h2⟩ := hlt
      have HS := Lib.hid (cmp_step a b h1 h2)
      have h1z : (i : Int) < (a.size : Int) := by omega
      have h2z : (i : Int) < (b.size : Int) := by omega
      obtain ⟨x, hx⟩ : ∃ x, bt a i = x := ⟨_, rfl⟩
      obtain ⟨y, hy⟩ : ∃ y, bt b i = y := ⟨_, rfl⟩
      have hgx := hga i h1
      have hgy := hgb i h2
      rw [hx] at HS hgx
      rw [hy] at HS hgy
      rw [HCC.out] at HS
      by_cases c1 : x < y
      · rw [if_pos c1] at HS
        go_wp2_with fail
        go_region
        go_wp2_with fail
        go_ret
        exact ⟨by rw [HS.out]; rfl, by first | exact drewM HBW.out | exact drewM (drewM HBW.out)⟩
      · rw [if_neg c1] at HS
        by_cases c2 : y < x
        · rw [if_pos c2] at HS
          go_wp2_with fail
          go_region
          go_wp2_with fail
          go_region
          go_wp2_with fail
          go_ret
          exact ⟨by rw [HS.out]; rfl, by first | exact drewM HBW.out | exact drewM (drewM HBW.out)⟩
        · have HN := Lib.hid (show Lib.compareBytes (a.data.toList.drop (i + 1)) (b.data.toList.drop (i + 1)) = C by rw [HS.out, if_neg c2])
          go_wp2_with fail
          go_region
          go_wp2_with fail
          go_region
          go_wp2_with fail
          exact ⟨⟨i + 1, by go_num, by omega, by omega, HN.out, by first | exact drewM HBW.out | exact drewM (drewM HBW.out)⟩, by simp [RowKit.intOf]; omega⟩
    · have HE := Lib.hid (cmp_end a b hia hib (by omega))
      rw [HCC.out] at HE
      have hway : ¬ (i : Int) < (a.size : Int) ∨ ((i : Int) < (a.size : Int) ∧ ¬ (i : Int) < (b.size : Int)) := by omega
      clear hlt
      by_cases c1 : a.size < b.size
      · rw [if_pos c1] at HE
        rcases hway with hw | ⟨hw, hw2⟩
        all_goals
          go_wp2_with fail
          go_ret
          exact ⟨by rw [HE.out]; rfl, HBW.out⟩
      · rw [if_neg c1] at HE
        by_cases c2 : b.size < a.size
        · rw [if_pos c2] at HE
          rcases hway with hw | ⟨hw, hw2⟩
          all_goals
            go_wp2_with fail
            go_ret
            exact ⟨by rw [HE.out]; rfl, HBW.out⟩
        · rw [if_neg c2] at HE
          rcases hway with hw | ⟨hw, hw2⟩
          all_goals
            go_wp2_with fail
            go_ret
            exact ⟨by rw [HE.out]; rfl, HBW.out⟩
/-- A string's hash, from a place on. -/
def hsT : List UInt8 → Int → Int
  | [], h => h
  | c :: r, h => hsT r ((31 * h + (c.toNat : Int) + 1).tmod 2147483647)
set_option maxRecDepth 100000 in
set_option maxHeartbeats 4000000 in
theorem hashText_any (a : ByteArray) (w : World) (ha : (a.size : Int) ≤ 20000) : Calls Tryz.prog 36 #[.string a] w fun e w' => e = .returned (.int .i64 (hsT a.data.toList (a.size : Int))) ∧ w = w' := by
  have hga := get_bt a
  obtain ⟨C, hC⟩ : ∃ C, hsT a.data.toList (a.size : Int) = C := ⟨_, rfl⟩
  rw [hC]
  have HC := Lib.hid hC
  clear hC
  go_enter Tryz.func36, Tryz.ntmps36
  go_wp2_with fail
  go_loopw [3, 9] (fun hv iv wr => ∃ (i : Nat) (h : Int), iv = .int .i64 i ∧ hv = .int .i64 h ∧ i ≤ a.size ∧ 0 ≤ h ∧ h ≤ 2147483647 ∧ hsT (a.data.toList.drop i) h = C ∧ w = wr) (fun hv iv wr => a.size - (RowKit.intOf iv).toNat)
  case atStart => exact ⟨0, (a.size : Int), by go_num, rfl, by omega, by omega, by omega, by rw [List.drop_zero]; exact HC.out, rfl⟩
  case round =>
    obtain ⟨i, h, rfl, rfl, hia, hh0, hh1, hcc, rfl⟩ := hrel
    have HCC := Lib.hid hcc
    clear hcc
    by_cases hlt : i < a.size
    · obtain ⟨c, h1, h2⟩ := drop_bt a hlt
      have h1z : (i : Int) < (a.size : Int) := by omega
      have hgx := hga i hlt
      have hcl : bt a i ≤ 255 := by rw [h2]; have := c.toNat_lt; omega
      have hc0 : (0 : Int) ≤ bt a i := by rw [h2]; omega
      have HN := Lib.hid (show hsT (a.data.toList.drop (i + 1)) ((31 * h + bt a i + 1).tmod 2147483647) = C by rw [← HCC.out, h1, h2]; rfl)
      obtain ⟨x, hx⟩ : ∃ x : Int, bt a i = x := ⟨_, rfl⟩
      rw [hx] at hgx hcl hc0 HN
      obtain ⟨H', hH'⟩ : ∃ H', (31 * h + x + 1).tmod 2147483647 = H' := ⟨_, rfl⟩
      have hb1 : 0 ≤ H' ∧ H' ≤ 2147483647 := by rw [← hH', Int.tmod_eq_emod_of_nonneg (by omega)]; omega
      rw [hH'] at HN
      clear h1 h2
      go_wp2_with fail
      exact ⟨⟨i + 1, H', by go_num, rfl, by omega, hb1.1, hb1.2, HN.out, trivial⟩, by simp [RowKit.intOf]; omega⟩
    · have HE := Lib.hid (show h = C by have := HCC.out; rw [drop_end a (by omega)] at this; exact this)
      go_wp2_with fail
      go_ret
      exact ⟨by rw [← HE.out]; rfl, rfl⟩
end
section
open Go Go.ChangeShapes Go.WideShapes Go.ChangeAt Go.RowKit
set_option linter.unusedVariables false
set_option linter.unusedSimpArgs false
theorem good_k {k : Int} {y n : Bool} {ws : List Int} {b : Nat} {s : ByteArray} {m : Nat} (h : goodP k y n ws b s m = true) : 0 ≤ k ∧ k ≤ 4 := by
  by_cases hk : k < 0 ∨ 4 < k
  · rw [goodP_out hk] at h; cases h
  · omega
theorem good_text {k : Int} {y n : Bool} {ws : List Int} {b : Nat} {s : ByteArray} {m : Nat} (h : goodP k y n ws b s m = true) (h4 : k ≠ 4) : s.toList = [] := by
  have h3 : bad3 k y b s = false := by
    cases hb : bad3 k y b s
    · rfl
    · rw [goodP_bad hb] at h; cases h
  unfold bad3 at h3
  rw [show (k != 4) = true by simpa using h4] at h3
  cases he : s.toList.isEmpty
  · rw [he] at h3; simp at h3
  · simpa using he
theorem num_k {k : Int} (h : numP k = true) : k = 1 ∨ k = 2 ∨ k = 3 := by
  unfold numP at h
  simp only [Bool.or_eq_true, beq_iff_eq] at h
  omega
theorem not_num {k : Int} (hk : 0 ≤ k ∧ k ≤ 4) (h : numP k = false) : k = 0 ∨ k = 4 := by
  unfold numP at h
  simp only [Bool.or_eq_false_iff, beq_eq_false_iff_ne] at h
  omega
set_option maxRecDepth 100000 in
theorem rFloat_any (b : Nat) (hb : b < 18446744073709551616) (w : World) : Calls Tryz.prog 24 #[.int .u64 (b : Int)] w fun e w' => e = .returned (.agg #[.int .i64 3, .bool false, .bool false, .slice none 0 0, .int .u64 (patB b : Nat), .string ⟨#[]⟩, .slice none 0 0]) ∧ Below w.heap.size w w' := by
  have HN := Lib.hid (fun W => risNaN_any b hb W)
  have HP := Lib.hid (show patB b = if nanB b = true then fNaN else b from rfl)
  have HB1 := Lib.hid (show Below w.heap.size w (w.alloc (.cells #[.int .i64 0, .bool false, .bool false, .slice none 0 0, .int .u64 0, .string ⟨#[]⟩, .slice none 0 0] 28)) from (Below.refl _ _).alloc (Nat.le_refl _) _)
  cases hn : nanB b
  all_goals
    rw [hn] at HN HP
    simp only [Bool.false_eq_true, if_false, if_true] at HP
    go_enter Tryz.func24, Tryz.ntmps24
    go_wp2_with (first
      | (go_at_call 16; (with_reducible refine (HN.out _).mono ?_); rintro e w9 ⟨rfl, rfl⟩)
      | fail)
    refine bodyPost_ret (v := .agg #[.int .i64 3, .bool false, .bool false, .slice none 0 0, .int .u64 (patB b : Nat), .string ⟨#[]⟩, .slice none 0 0]) (by simp [results, Tryz.results24, go_sem, HP.out]; (try rfl)) rfl ⟨rfl, (Below.refl _ _).alloc (Nat.le_refl _) _⟩
set_option maxRecDepth 100000 in
set_option maxHeartbeats 8000000 in
theorem requal_any (kA : Int) (yA nA : Bool) (uA : Value) (sA : List Int) (bA : Nat) (xA : ByteArray) (pAi : Option Addr) (mA cAi : Nat) (kB : Int) (yB nB : Bool) (uB : Value) (sB : List Int) (bB : Nat) (xB : ByteArray) (pBi : Option Addr) (mB cBi : Nat) (w : World) (hrA : Rd w uA sA) (hrB : Rd w uB sB) (hfA : Fit sA) (hfB : Fit sB) (hbA : bA < 18446744073709551616) (hbB : bB < 18446744073709551616) (hmA0 : (mA : Int) ≤ 9223372036854775807) (hmB0 : (mB : Int) ≤ 9223372036854775807) (hxA : (xA.size : Int) ≤ 9223372036854775807) (hxB : (xB.size : Int) ≤ 9223372036854775807) (hgA : goodP kA yA nA sA bA xA mA = true) (hgB : goodP kB yB nB sB bB xB mB = true) :
    Calls Tryz.prog 11 #[.agg #[.int .i64 kA, .bool yA, .bool nA, uA, .int .u64 (bA : Int), .string xA, .slice pAi mA cAi], .agg #[.int .i64 kB, .bool yB, .bool nB, uB, .int .u64 (bB : Int), .string xB, .slice pBi mB cBi]] w fun e w' => e = .returned (.bool (eqP true true (numP kA) (numP kB) (nuC kA kB bA bB (zP kA yA nA sA) (zP kB yB nB sB)) (nuB kA kB bA bB) kA kB xA xB)) ∧ Below w.heap.size w w' := by
  obtain ⟨pA, cA, rfl, hcA, hmA, hpA⟩ := rd_form hrA
  obtain ⟨pB, cB, rfl, hcB, hmB, hpB⟩ := rd_form hrB
  obtain ⟨W1, hW1⟩ : ∃ x, (w.alloc (.cells #[.int .i64 kA, .bool yA, .bool nA, .slice pA sA.length cA, .int .u64 (bA : Int), .string xA, .slice pAi mA cAi] 28)).alloc (.cells #[.int .i64 kB, .bool yB, .bool nB, .slice pB sB.length cB, .int .u64 (bB : Int), .string xB, .slice pBi mB cBi] 28) = x := ⟨_, rfl⟩
  have HB1 := Lib.hid (show Below w.heap.size w W1 by rw [← hW1]; exact ((Below.refl _ _).alloc (Nat.le_refl _) _).alloc (by simp) _)
  have HXA := Lib.hid (show Bx7 W1 (w.heap.size) (.int .i64 kA) (.bool yA) (.bool nA) (.slice pA sA.length cA) (.int .u64 (bA : Int)) (.string xA) (.slice pAi mA cAi) by rw [← hW1]; exact (Bx7.new w _ _ _ _ _ _ _ _ rfl).keep ((Below.refl _ _).alloc (Nat.le_refl _) _))
  have HXB := Lib.hid (show Bx7 W1 (w.heap.size + 1) (.int .i64 kB) (.bool yB) (.bool nB) (.slice pB sB.length cB) (.int .u64 (bB : Int)) (.string xB) (.slice pBi mB cBi) by rw [← hW1]; exact Bx7.new _ _ _ _ _ _ _ _ _ (by simp))
  have HRA := Lib.hid (hrA.keep HB1.out)
  have HRB := Lib.hid (hrB.keep HB1.out)
  have HNA := Lib.hid (fun (W : World) => number15_any kA yA nA (.slice pA sA.length cA) bA xA (.slice pAi mA cAi) W)
  have HNB := Lib.hid (fun (W : World) => number15_any kB yB nB (.slice pB sB.length cB) bB xB (.slice pBi mB cBi) W)
  have HCM := Lib.hid (fun (hA : numP kA = true) (hB : numP kB = true) (W : World) (hx : Below W1.heap.size W1 W) => numbers_any kA yA nA _ sA bA xA (.slice pAi mA cAi) kB yB nB _ sB bB xB (.slice pBi mB cBi) W (HRA.out.keep hx) (HRB.out.keep hx) hfA hfB (good_k2 hgA) (good_k2 hgB) hbA hbB (num_k hA) (num_k hB))
  have hb0 := Below.refl W1.heap.size W1
  have hkA := good_k hgA
  have hkB := good_k hgB
  have htA := Lib.hid (fun h => good_text hgA h)
  have htB := Lib.hid (fun h => good_text hgB h)
  have HNK := Lib.hid (fun h => not_num hkA h)
  have HNL := Lib.hid (fun h => not_num hkB h)
  obtain ⟨qA, hqA⟩ : ∃ g, numP kA = g := ⟨_, rfl⟩
  obtain ⟨qB, hqB⟩ : ∃ g, numP kB = g := ⟨_, rfl⟩
  rw [hqA] at HNA HCM HNK
  rw [hqB] at HNB HCM HNL
  have a0 := HXA.out.c0
  have a1 := HXA.out.c1
  have a2 := HXA.out.c2
  have a3 := HXA.out.c3
  have a4 := HXA.out.c4
  have a5 := HXA.out.c5
  have a6 := HXA.out.c6
  have d0 := HXB.out.c0
  have d1 := HXB.out.c1
  have d2 := HXB.out.c2
  have d3 := HXB.out.c3
  have d4 := HXB.out.c4
  have d5 := HXB.out.c5
  have d6 := HXB.out.c6
  have HV := Lib.hid (show eqP true true qA qB (nuC kA kB bA bB (zP kA yA nA sA) (zP kB yB nB sB)) (nuB kA kB bA bB) kA kB xA xB = (if (qA && qB) = true then ((nuC kA kB bA bB (zP kA yA nA sA) (zP kB yB nB sB)) == 0) && (nuB kA kB bA bB) else (kA == kB) && (xA.toList == xB.toList)) by unfold eqP; simp)
  rw [hqA, hqB]
  obtain ⟨c, hc⟩ : ∃ c, nuC kA kB bA bB (zP kA yA nA sA) (zP kB yB nB sB) = c := ⟨_, rfl⟩
  obtain ⟨ok, hok⟩ : ∃ c, nuB kA kB bA bB = c := ⟨_, rfl⟩
  rw [hc, hok] at HV HCM ⊢
  have HKE := Lib.hid (show (kA != kB) = !(kA == kB) from rfl)
  have HXE : (qA && qB) = false → (kA == kB) = true → (kA == 0 || (kA == 4 && (xA.toList == xB.toList))) = (xA.toList == xB.toList) := by
    intro h1 h2
    have h2' : kA = kB := by simpa using h2
    have hk : kA = 0 ∨ kA = 4 := by
      cases qA
      · exact HNK.out rfl
      · cases qB
        · have := HNL.out rfl; omega
        · cases h1
    rcases hk with h | h
    · have e1 := htA.out (by omega)
      have e2 := htB.out (by omega)
      rw [e1, e2, h]; rfl
    · rw [h]; simp
  have HXE' := Lib.hid HXE
  obtain ⟨xe, hxe⟩ : ∃ z, (xA.toList == xB.toList) = z := ⟨_, rfl⟩
  obtain ⟨ke, hke⟩ : ∃ z, (kA == kB) = z := ⟨_, rfl⟩
  obtain ⟨k0, hk0⟩ : ∃ z, (kA == 0) = z := ⟨_, rfl⟩
  obtain ⟨k4, hk4⟩ : ∃ z, (kA == 4) = z := ⟨_, rfl⟩
  rw [hke, hxe] at HV
  rw [hke, hk0, hk4, hxe] at HXE'
  rw [hke] at HKE
  clear hrA hrB hfA hfB hpA hpB hqA hqB hc hok hbA hbB HXE hkA hkB hgA hgB
  have hkn := HKE.out
  clear hke
  go_enter Tryz.func11, Tryz.ntmps11
  have wq : qA = false ∨ (qA = true ∧ qB = false) ∨ (qA = true ∧ qB = true) := by cases qA <;> cases qB <;> simp
  rcases wq with rfl | ⟨rfl, rfl⟩ | ⟨rfl, rfl⟩
  · simp only [Bool.false_and, Bool.and_false, Bool.false_eq_true, if_false] at HV
    cases ke
    · go_wp2_with (first
        | (go_at_call 31; (with_reducible refine (HNA.out _).mono ?_); rintro e v1 ⟨rfl, hvv⟩; have hb1 : Below W1.heap.size W1 v1 := hb0.trans (hvv.mono hb0.size); have fa0 := below_cell hvv a0; have fa1 := below_cell hvv a1; have fa2 := below_cell hvv a2; have fa3 := below_cell hvv a3; have fa4 := below_cell hvv a4; have fa5 := below_cell hvv a5; have fa6 := below_cell hvv a6; have fd0 := below_cell hvv d0; have fd1 := below_cell hvv d1; have fd2 := below_cell hvv d2; have fd3 := below_cell hvv d3; have fd4 := below_cell hvv d4; have fd5 := below_cell hvv d5; have fd6 := below_cell hvv d6; clear hvv)
        | (go_at_call 31; (with_reducible refine (HNB.out _).mono ?_); rintro e v2 ⟨rfl, hvv⟩; have hb2 : Below W1.heap.size W1 v2 := hb1.trans (hvv.mono hb1.size); have ga0 := below_cell hvv fa0; have ga1 := below_cell hvv fa1; have ga2 := below_cell hvv fa2; have ga3 := below_cell hvv fa3; have ga4 := below_cell hvv fa4; have ga5 := below_cell hvv fa5; have ga6 := below_cell hvv fa6; have gd0 := below_cell hvv fd0; have gd1 := below_cell hvv fd1; have gd2 := below_cell hvv fd2; have gd3 := below_cell hvv fd3; have gd4 := below_cell hvv fd4; have gd5 := below_cell hvv fd5; have gd6 := below_cell hvv fd6; clear hvv)
        | fail)
      go_ret
      exact ⟨by rw [HV.out]; rfl, HB1.out.trans (hb1.mono HB1.out.size)⟩
    · have HE := Lib.hid (HXE'.out (by first | rfl | trivial) (by first | rfl | trivial))
      simp only [Bool.true_and] at HV
      have wk : k0 = true ∨ (k0 = false ∧ k4 = true) ∨ (k0 = false ∧ k4 = false) := by cases k0 <;> cases k4 <;> simp
      rcases wk with rfl | ⟨rfl, rfl⟩ | ⟨rfl, rfl⟩
      all_goals
        go_wp2_with (first
          | (go_at_call 31; (with_reducible refine (HNA.out _).mono ?_); rintro e v1 ⟨rfl, hvv⟩; have hb1 : Below W1.heap.size W1 v1 := hb0.trans (hvv.mono hb0.size); have fa0 := below_cell hvv a0; have fa1 := below_cell hvv a1; have fa2 := below_cell hvv a2; have fa3 := below_cell hvv a3; have fa4 := below_cell hvv a4; have fa5 := below_cell hvv a5; have fa6 := below_cell hvv a6; have fd0 := below_cell hvv d0; have fd1 := below_cell hvv d1; have fd2 := below_cell hvv d2; have fd3 := below_cell hvv d3; have fd4 := below_cell hvv d4; have fd5 := below_cell hvv d5; have fd6 := below_cell hvv d6; clear hvv)
          | (go_at_call 31; (with_reducible refine (HNB.out _).mono ?_); rintro e v2 ⟨rfl, hvv⟩; have hb2 : Below W1.heap.size W1 v2 := hb1.trans (hvv.mono hb1.size); have ga0 := below_cell hvv fa0; have ga1 := below_cell hvv fa1; have ga2 := below_cell hvv fa2; have ga3 := below_cell hvv fa3; have ga4 := below_cell hvv fa4; have ga5 := below_cell hvv fa5; have ga6 := below_cell hvv fa6; have gd0 := below_cell hvv fd0; have gd1 := below_cell hvv fd1; have gd2 := below_cell hvv fd2; have gd3 := below_cell hvv fd3; have gd4 := below_cell hvv fd4; have gd5 := below_cell hvv fd5; have gd6 := below_cell hvv fd6; clear hvv)
          | fail)
        go_ret
        exact ⟨by rw [HV.out, ← HE.out]; rfl, HB1.out.trans (hb1.mono HB1.out.size)⟩
  · simp only [Bool.false_and, Bool.and_false, Bool.false_eq_true, if_false] at HV
    cases ke
    · go_wp2_with (first
        | (go_at_call 31; (with_reducible refine (HNA.out _).mono ?_); rintro e v1 ⟨rfl, hvv⟩; have hb1 : Below W1.heap.size W1 v1 := hb0.trans (hvv.mono hb0.size); have fa0 := below_cell hvv a0; have fa1 := below_cell hvv a1; have fa2 := below_cell hvv a2; have fa3 := below_cell hvv a3; have fa4 := below_cell hvv a4; have fa5 := below_cell hvv a5; have fa6 := below_cell hvv a6; have fd0 := below_cell hvv d0; have fd1 := below_cell hvv d1; have fd2 := below_cell hvv d2; have fd3 := below_cell hvv d3; have fd4 := below_cell hvv d4; have fd5 := below_cell hvv d5; have fd6 := below_cell hvv d6; clear hvv)
        | (go_at_call 31; (with_reducible refine (HNB.out _).mono ?_); rintro e v2 ⟨rfl, hvv⟩; have hb2 : Below W1.heap.size W1 v2 := hb1.trans (hvv.mono hb1.size); have ga0 := below_cell hvv fa0; have ga1 := below_cell hvv fa1; have ga2 := below_cell hvv fa2; have ga3 := below_cell hvv fa3; have ga4 := below_cell hvv fa4; have ga5 := below_cell hvv fa5; have ga6 := below_cell hvv fa6; have gd0 := below_cell hvv fd0; have gd1 := below_cell hvv fd1; have gd2 := below_cell hvv fd2; have gd3 := below_cell hvv fd3; have gd4 := below_cell hvv fd4; have gd5 := below_cell hvv fd5; have gd6 := below_cell hvv fd6; clear hvv)
        | fail)
      go_ret
      exact ⟨by rw [HV.out]; rfl, HB1.out.trans (hb2.mono HB1.out.size)⟩
    · have HE := Lib.hid (HXE'.out (by first | rfl | trivial) (by first | rfl | trivial))
      simp only [Bool.true_and] at HV
      have wk : k0 = true ∨ (k0 = false ∧ k4 = true) ∨ (k0 = false ∧ k4 = false) := by cases k0 <;> cases k4 <;> simp
      rcases wk with rfl | ⟨rfl, rfl⟩ | ⟨rfl, rfl⟩
      all_goals
        go_wp2_with (first
          | (go_at_call 31; (with_reducible refine (HNA.out _).mono ?_); rintro e v1 ⟨rfl, hvv⟩; have hb1 : Below W1.heap.size W1 v1 := hb0.trans (hvv.mono hb0.size); have fa0 := below_cell hvv a0; have fa1 := below_cell hvv a1; have fa2 := below_cell hvv a2; have fa3 := below_cell hvv a3; have fa4 := below_cell hvv a4; have fa5 := below_cell hvv a5; have fa6 := below_cell hvv a6; have fd0 := below_cell hvv d0; have fd1 := below_cell hvv d1; have fd2 := below_cell hvv d2; have fd3 := below_cell hvv d3; have fd4 := below_cell hvv d4; have fd5 := below_cell hvv d5; have fd6 := below_cell hvv d6; clear hvv)
          | (go_at_call 31; (with_reducible refine (HNB.out _).mono ?_); rintro e v2 ⟨rfl, hvv⟩; have hb2 : Below W1.heap.size W1 v2 := hb1.trans (hvv.mono hb1.size); have ga0 := below_cell hvv fa0; have ga1 := below_cell hvv fa1; have ga2 := below_cell hvv fa2; have ga3 := below_cell hvv fa3; have ga4 := below_cell hvv fa4; have ga5 := below_cell hvv fa5; have ga6 := below_cell hvv fa6; have gd0 := below_cell hvv fd0; have gd1 := below_cell hvv fd1; have gd2 := below_cell hvv fd2; have gd3 := below_cell hvv fd3; have gd4 := below_cell hvv fd4; have gd5 := below_cell hvv fd5; have gd6 := below_cell hvv fd6; clear hvv)
          | fail)
        go_ret
        exact ⟨by rw [HV.out, ← HE.out]; rfl, HB1.out.trans (hb2.mono HB1.out.size)⟩
  · simp only [Bool.and_self, if_true] at HV
    cases ok
    all_goals
      go_wp2_with (first
        | (go_at_call 31; (with_reducible refine (HNA.out _).mono ?_); rintro e v1 ⟨rfl, hvv⟩; have hb1 : Below W1.heap.size W1 v1 := hb0.trans (hvv.mono hb0.size); have fa0 := below_cell hvv a0; have fa1 := below_cell hvv a1; have fa2 := below_cell hvv a2; have fa3 := below_cell hvv a3; have fa4 := below_cell hvv a4; have fa5 := below_cell hvv a5; have fa6 := below_cell hvv a6; have fd0 := below_cell hvv d0; have fd1 := below_cell hvv d1; have fd2 := below_cell hvv d2; have fd3 := below_cell hvv d3; have fd4 := below_cell hvv d4; have fd5 := below_cell hvv d5; have fd6 := below_cell hvv d6; clear hvv)
        | (go_at_call 31; (with_reducible refine (HNB.out _).mono ?_); rintro e v2 ⟨rfl, hvv⟩; have hb2 : Below W1.heap.size W1 v2 := hb1.trans (hvv.mono hb1.size); have ga0 := below_cell hvv fa0; have ga1 := below_cell hvv fa1; have ga2 := below_cell hvv fa2; have ga3 := below_cell hvv fa3; have ga4 := below_cell hvv fa4; have ga5 := below_cell hvv fa5; have ga6 := below_cell hvv fa6; have gd0 := below_cell hvv fd0; have gd1 := below_cell hvv fd1; have gd2 := below_cell hvv fd2; have gd3 := below_cell hvv fd3; have gd4 := below_cell hvv fd4; have gd5 := below_cell hvv fd5; have gd6 := below_cell hvv fd6; clear hvv)
        | (go_at_call 32; (with_reducible refine (HCM.out (by first | rfl | trivial) (by first | rfl | trivial) _ hb2).mono ?_); rintro e v3 ⟨rfl, hvv⟩; have hb3 : Below W1.heap.size W1 v3 := hb2.trans (hvv.mono hb2.size); have ka0 := below_cell hvv ga0; have ka1 := below_cell hvv ga1; have ka2 := below_cell hvv ga2; have ka3 := below_cell hvv ga3; have ka4 := below_cell hvv ga4; have ka5 := below_cell hvv ga5; have ka6 := below_cell hvv ga6; have kd0 := below_cell hvv gd0; have kd1 := below_cell hvv gd1; have kd2 := below_cell hvv gd2; have kd3 := below_cell hvv gd3; have kd4 := below_cell hvv gd4; have kd5 := below_cell hvv gd5; have kd6 := below_cell hvv gd6; clear hvv)
        | fail)
      go_ret
      exact ⟨by rw [HV.out]; simp, HB1.out.trans (hb3.mono HB1.out.size)⟩
end
end Go.Proofs.YtnfemojgecljiaaGreatDoor
