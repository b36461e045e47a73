/- Layer 15: the document's Good. Layer 15: the order of two strings, byte by byte; a string's hash. Layer 15: Equal, Order, Same: the document's, of plain values in form. -/
import Derived.Test.YtpebnofjcodikaaGreatDoorPGPlA
import Derived.Test.YtpebnofjcodikaaGreatDoorPGWg
import Derived.Lib.Bytealg
import Derived.PlainAid
import Derived.LoopTactic
import Derived.Test.YtpebnofjcodikaaGreatDoorPGWa
namespace Go.Proofs.YtpebnofjcodikaaGreatDoor
section
open Go Go.ChangeShapes Go.WideShapes Go.ChangeAt Go.RowKit
set_option linter.unusedVariables false
set_option linter.unusedSimpArgs false
theorem goodP_out {k : Int} {y n : Bool} {ws : List Int} {b : Nat} {s : ByteArray} {m : Nat} (h : k < 0 ∨ 4 < k) : goodP k y n ws b s m = false := by
  unfold goodP
  rw [if_neg (by omega), if_neg (by omega), if_neg (by omega), Bool.and_false]
theorem goodP_m {k : Int} {y n : Bool} {ws : List Int} {b : Nat} {s : ByteArray} {m : Nat} (h : m ≠ 0) : goodP k y n ws b s m = false := by
  unfold goodP
  rw [decide_eq_false h]; rfl
def bad3 (k : Int) (y : Bool) (b : Nat) (s : ByteArray) : Bool := ((k != 1) && y || (k != 3) && ((b : Int) != 0)) || (k != 4) && !s.toList.isEmpty
theorem goodP_bad {k : Int} {y n : Bool} {ws : List Int} {b : Nat} {s : ByteArray} {m : Nat} (h : bad3 k y b s = true) : goodP k y n ws b s m = false := by
  unfold goodP badP
  unfold bad3 at h
  rw [h]; simp
theorem goodP_int {y n : Bool} {ws : List Int} {b : Nat} {s : ByteArray} (h : bad3 2 y b s = false) : goodP 2 y n ws b s 0 = goodB n ws := by
  unfold goodP badP
  unfold bad3 at h
  rw [h]; simp
theorem toList_size {s : ByteArray} (h : s.toList.isEmpty = true) : s.size = 0 := by
  have h2 : s.toList = [] := by simpa using h
  have h3 : s.toList.length = 0 := by rw [h2]; rfl
  rwa [Lib.toList_data, Array.length_toList] at h3
theorem goodP_not {k : Int} {y n : Bool} {ws : List Int} {b : Nat} {s : ByteArray} (h : bad3 k y b s = false) (hk : 0 ≤ k ∧ k ≤ 4) (h2 : k ≠ 2) : goodP k y n ws b s 0 = ((!n && decide (ws.length = 0)) && decide (s.size ≤ 20000)) := by
  have h2' : (k != 2) = true := by simpa using h2
  have hb : badP k y n ws.length b s = (n || decide (0 < ws.length)) := by
    unfold badP
    unfold bad3 at h
    rw [h, h2']; simp
  unfold goodP
  rw [hb]
  have hd : decide (0 < ws.length) = !decide (ws.length = 0) := by
    by_cases h0 : ws.length = 0 <;> simp [h0]
    omega
  rw [hd]
  by_cases h4 : k = 4
  · subst h4
    cases n <;> simp
  · have hs : s.size = 0 := by
      unfold bad3 at h
      have h4' : (k != 4) = true := by simpa using h4
      rw [h4'] at h
      apply toList_size
      cases he : s.toList.isEmpty
      · rw [he] at h; simp at h
      · rfl
    rw [if_pos (by omega), hs]
    cases n <;> simp
set_option maxRecDepth 100000 in
set_option maxHeartbeats 8000000 in
theorem rgood15_any (k : Int) (y n : Bool) (u : Value) (ws : List Int) (b : Nat) (s : ByteArray) (ip : Option Addr) (m ic : Nat) (w : World) (hb : b < 18446744073709551616) (hr : Rd w u ws) (hf : Fit ws) (hm : (m : Int) ≤ 9223372036854775807) (hs : (s.size : Int) ≤ 9223372036854775807) :
    Calls Tryz.prog 7 #[.agg #[.int .i64 k, .bool y, .bool n, u, .int .u64 (b : Int), .string s, .slice ip m ic]] w fun e w' => e = .returned (.bool (goodP k y n ws b s m)) ∧ Below w.heap.size w w' := by
  obtain ⟨p, c, rfl, hc, hwm, hp⟩ := rd_form hr
  have HB1 := Lib.hid (show Below w.heap.size w (w.alloc (.cells #[.int .i64 k, .bool y, .bool n, .slice p ws.length c, .int .u64 (b : Int), .string s, .slice ip m ic] 28)) from (Below.refl _ _).alloc (Nat.le_refl _) _)
  have HX1 := Lib.hid (Bx7.new w (.int .i64 k) (.bool y) (.bool n) (.slice p ws.length c) (.int .u64 (b : Int)) (.string s) (.slice ip m ic) 28 rfl)
  have HR1 := Lib.hid (hr.keep HB1.out)
  have HG := Lib.hid (refgood_any n _ ws _ HR1.out hf)
  obtain ⟨W1, hW1⟩ : ∃ x, w.alloc (.cells #[.int .i64 k, .bool y, .bool n, .slice p ws.length c, .int .u64 (b : Int), .string s, .slice ip m ic] 28) = x := ⟨_, rfl⟩
  rw [hW1] at HB1 HX1 HR1 HG
  clear hr hf hp
  have c0 := HX1.out.c0
  have c1 := HX1.out.c1
  have c2 := HX1.out.c2
  have c3 := HX1.out.c3
  have c4 := HX1.out.c4
  have c5 := HX1.out.c5
  have c6 := HX1.out.c6
  by_cases hk : 0 ≤ k ∧ k ≤ 4
  · obtain ⟨hk1, hk2⟩ := hk
    by_cases hm0 : m = 0
    · subst hm0
      go_enter Tryz.func7, Tryz.ntmps7
      go_upto_region 3 with fail
      (try rw [hW1])
      clear hW1
      obtain ⟨g, hg⟩ : ∃ g, bad3 k y b s = g := ⟨_, rfl⟩
      have HG3 := Lib.hid hg
      unfold bad3 at hg
      obtain ⟨q1, h1⟩ : ∃ q, (k != 1) = q := ⟨_, rfl⟩
      obtain ⟨q3, h3⟩ : ∃ q, (k != 3) = q := ⟨_, rfl⟩
      obtain ⟨q4, h4⟩ : ∃ q, (k != 4) = q := ⟨_, rfl⟩
      obtain ⟨qb, hqb⟩ : ∃ q, ((b : Int) != 0) = q := ⟨_, rfl⟩
      obtain ⟨qs, hqs⟩ : ∃ q, s.toList.isEmpty = q := ⟨_, rfl⟩
      rw [h1, h3, h4, hqb, hqs] at hg
      have HGb := Lib.hid hg
      clear hg
      go_cut [43] from 17 to 42 (fun t wx => t = .bool g ∧ W1 = wx)
      case first =>
        have w1 : (q1 = true ∧ y = true) ∨ q1 = false ∨ (q1 = true ∧ y = false) := by cases q1 <;> cases y <;> simp
        have w3 : (q3 = true ∧ qb = true) ∨ q3 = false ∨ (q3 = true ∧ qb = false) := by cases q3 <;> cases qb <;> simp
        have w4 : (q4 = true ∧ qs = false) ∨ q4 = false ∨ (q4 = true ∧ qs = true) := by cases q4 <;> cases qs <;> simp
        rcases w1 with ⟨rfl, rfl⟩ | rfl | ⟨rfl, rfl⟩
        · go_wp2_with fail
          go_meet
          exact ⟨by rw [← HGb.out]; rfl, rfl⟩
        all_goals
          rcases w3 with ⟨rfl, rfl⟩ | rfl | ⟨rfl, rfl⟩
          · go_wp2_with fail
            go_meet
            exact ⟨by rw [← HGb.out]; rfl, rfl⟩
          all_goals
            rcases w4 with ⟨rfl, rfl⟩ | rfl | ⟨rfl, rfl⟩
            all_goals
              go_wp2_with fail
              go_meet
              exact ⟨by rw [← HGb.out]; rfl, rfl⟩
      case rest =>
        obtain ⟨rfl, rfl⟩ := hcut
        clear h1 h3 h4 hqb hqs HGb
        cases g
        · by_cases k2 : k = 2
          · subst k2
            have HV := Lib.hid (goodP_int (n := n) (ws := ws) HG3.out)
            go_wp2_with (first
              | (go_at_call 28; refine HG.out.mono ?_; rintro e w2 ⟨rfl, hb⟩; have HB2 := Lib.hid (HB1.out.trans (hb.mono HB1.out.size)); clear hb HG)
              | fail)
            go_ret
            exact ⟨by rw [HV.out]; rfl, HB2.out⟩
          · have HV := Lib.hid (goodP_not (n := n) (ws := ws) HG3.out ⟨hk1, hk2⟩ k2)
            have hk2' : (k != 2) = true := by simpa using k2
            obtain ⟨ql, hql⟩ : ∃ q, decide (ws.length = 0) = q := ⟨_, rfl⟩
            have hql2 : ((ws.length : Int) == 0) = ql := by rw [← hql]; rw [Bool.eq_iff_iff, beq_iff_eq, decide_eq_true_eq]; omega
            rw [hql] at HV
            clear k2 hql
            cases n
            · cases ql
              · go_wp2_with fail
                go_ret
                exact ⟨by rw [HV.out]; rfl, HB1.out⟩
              · go_wp2_with fail
                go_ret
                exact ⟨by rw [HV.out]; simp; omega, HB1.out⟩
            · go_wp2_with fail
              go_ret
              exact ⟨by rw [HV.out]; rfl, HB1.out⟩
        · have HV := Lib.hid (goodP_bad (n := n) (ws := ws) (m := 0) HG3.out)
          go_wp2_with fail
          go_ret
          exact ⟨by rw [HV.out]; rfl, HB1.out⟩
    · have HV := Lib.hid (goodP_m (k := k) (y := y) (n := n) (ws := ws) (b := b) (s := s) hm0)
      have hm1 : ((m : Int) != 0) = true := by simp; omega
      clear hm0
      go_enter Tryz.func7, Tryz.ntmps7
      go_wp2_with fail
      go_ret
      exact ⟨by rw [HV.out]; rfl, HB1.out⟩
  · have hw : k < 0 ∨ (0 ≤ k ∧ 4 < k) := by omega
    have HV := Lib.hid (goodP_out (k := k) (y := y) (n := n) (ws := ws) (b := b) (s := s) (m := m) (by omega))
    clear hk
    rcases hw with h0 | ⟨h0, h4⟩
    all_goals
      go_enter Tryz.func7, Tryz.ntmps7
      go_wp2_with fail
      go_ret
      exact ⟨by rw [HV.out]; rfl, HB1.out⟩
end
section
open Go Go.ChangeShapes Go.WideShapes Go.ChangeAt Go.RowKit Go.PlainAid
set_option linter.unusedVariables false
set_option linter.unusedSimpArgs false
theorem btl (s : ByteArray) {k : Nat} (h : k < s.size) : ∃ c : UInt8, s.data.toList[k]? = some c ∧ bt s k = (c.toNat : Int) := by
  refine ⟨s[k]'h, ?_, ?_⟩
  · rw [List.getElem?_eq_getElem (by simpa using h)]; rfl
  · unfold bt; rw [dif_pos h]
theorem drop_bt (s : ByteArray) {k : Nat} (h : k < s.size) : ∃ c : UInt8, s.data.toList.drop k = c :: s.data.toList.drop (k + 1) ∧ bt s k = (c.toNat : Int) := by
  obtain ⟨c, h1, h2⟩ := btl s h
  refine ⟨c, ?_, h2⟩
  have hl : k < s.data.toList.length := by simpa using h
  rw [List.drop_eq_getElem_cons hl]
  congr 1
  rw [List.getElem?_eq_getElem hl] at h1
  exact Option.some.inj h1
theorem drop_end (s : ByteArray) {k : Nat} (h : s.size ≤ k) : s.data.toList.drop k = [] := List.drop_eq_nil_of_le (by simpa using h)
/-- A string's hash, from a place on. -/
def hsT : List UInt8 → Int → Int
  | [], h => h
  | c :: r, h => hsT r ((31 * h + (c.toNat : Int) + 1).tmod 2147483647)
set_option maxRecDepth 100000 in
set_option maxHeartbeats 4000000 in
theorem hashText_any (a : ByteArray) (w : World) (ha : (a.size : Int) ≤ 20000) : Calls Tryz.prog 41 #[.string a] w fun e w' => e = .returned (.int .i64 (hsT a.data.toList (a.size : Int))) ∧ w = w' := by
  have hga := get_bt a
  obtain ⟨C, hC⟩ : ∃ C, hsT a.data.toList (a.size : Int) = C := ⟨_, rfl⟩
  rw [hC]
  have HC := Lib.hid hC
  clear hC
  go_enter Tryz.func41, Tryz.ntmps41
  go_wp2_with fail
  go_loopw [3, 9] (fun hv iv wr => ∃ (i : Nat) (h : Int), iv = .int .i64 i ∧ hv = .int .i64 h ∧ i ≤ a.size ∧ 0 ≤ h ∧ h ≤ 2147483647 ∧ hsT (a.data.toList.drop i) h = C ∧ w = wr) (fun hv iv wr => a.size - (RowKit.intOf iv).toNat)
  case atStart => exact ⟨0, (a.size : Int), by go_num, rfl, by omega, by omega, by omega, by rw [List.drop_zero]; exact HC.out, rfl⟩
  case round =>
    obtain ⟨i, h, rfl, rfl, hia, hh0, hh1, hcc, rfl⟩ := hrel
    have HCC := Lib.hid hcc
    clear hcc
    by_cases hlt : i < a.size
    · obtain ⟨c, h1, h2⟩ := drop_bt a hlt
      have h1z : (i : Int) < (a.size : Int) := by omega
      have hgx := hga i hlt
      have hcl : bt a i ≤ 255 := by rw [h2]; have := c.toNat_lt; omega
      have hc0 : (0 : Int) ≤ bt a i := by rw [h2]; omega
      have HN := Lib.hid (show hsT (a.data.toList.drop (i + 1)) ((31 * h + bt a i + 1).tmod 2147483647) = C by rw [← HCC.out, h1, h2]; rfl)
      obtain ⟨x, hx⟩ : ∃ x : Int, bt a i = x := ⟨_, rfl⟩
      rw [hx] at hgx hcl hc0 HN
      obtain ⟨H', hH'⟩ : ∃ H', (31 * h + x + 1).tmod 2147483647 = H' := ⟨_, rfl⟩
      have hb1 : 0 ≤ H' ∧ H' ≤ 2147483647 := by rw [← hH', Int.tmod_eq_emod_of_nonneg (by omega)]; omega
      rw [hH'] at HN
      clear h1 h2
      go_wp2_with fail
      exact ⟨⟨i + 1, H', by go_num, rfl, by omega, hb1.1, hb1.2, HN.out, trivial⟩, by simp [RowKit.intOf]; omega⟩
    · have HE := Lib.hid (show h = C by have := HCC.out; rw [drop_end a (by omega)] at this; exact this)
      go_wp2_with fail
      go_ret
      exact ⟨by rw [← HE.out]; rfl, rfl⟩
end
section
open Go Go.ChangeShapes Go.WideShapes Go.ChangeAt Go.RowKit
set_option linter.unusedVariables false
set_option linter.unusedSimpArgs false
theorem good_text {k : Int} {y n : Bool} {ws : List Int} {b : Nat} {s : ByteArray} {m : Nat} (h : goodP k y n ws b s m = true) (h4 : k ≠ 4) : s.toList = [] := by
  have h3 : bad3 k y b s = false := by
    cases hb : bad3 k y b s
    · rfl
    · rw [goodP_bad hb] at h; cases h
  unfold bad3 at h3
  rw [show (k != 4) = true by simpa using h4] at h3
  cases he : s.toList.isEmpty
  · rw [he] at h3; simp at h3
  · simpa using he
set_option maxRecDepth 100000 in
theorem rFloat_any (b : Nat) (hb : b < 18446744073709551616) (w : World) : Calls Tryz.prog 18 #[.int .u64 (b : Int)] w fun e w' => e = .returned (.agg #[.int .i64 3, .bool false, .bool false, .slice none 0 0, .int .u64 (patB b : Nat), .string ⟨#[]⟩, .slice none 0 0]) ∧ Below w.heap.size w w' := by
  have HN := Lib.hid (fun W => risNaN_any b hb W)
  have HP := Lib.hid (show patB b = if nanB b = true then fNaN else b from rfl)
  have HB1 := Lib.hid (show Below w.heap.size w (w.alloc (.cells #[.int .i64 0, .bool false, .bool false, .slice none 0 0, .int .u64 0, .string ⟨#[]⟩, .slice none 0 0] 28)) from (Below.refl _ _).alloc (Nat.le_refl _) _)
  cases hn : nanB b
  all_goals
    rw [hn] at HN HP
    simp only [Bool.false_eq_true, if_false, if_true] at HP
    go_enter Tryz.func18, Tryz.ntmps18
    go_wp2_with (first
      | (go_at_call 44; (with_reducible refine (HN.out _).mono ?_); rintro e w9 ⟨rfl, rfl⟩)
      | fail)
    refine bodyPost_ret (v := .agg #[.int .i64 3, .bool false, .bool false, .slice none 0 0, .int .u64 (patB b : Nat), .string ⟨#[]⟩, .slice none 0 0]) (by simp [results, Tryz.results18, go_sem, HP.out]; (try rfl)) rfl ⟨rfl, (Below.refl _ _).alloc (Nat.le_refl _) _⟩
end
end Go.Proofs.YtpebnofjcodikaaGreatDoor
