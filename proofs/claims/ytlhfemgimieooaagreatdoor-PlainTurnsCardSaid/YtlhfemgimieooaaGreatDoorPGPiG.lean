/- Numerals as a source writes them: digits, a point and digits, an exponent; the rest of a text. -/
import Derived.Test.YtlhfemgimieooaaGreatDoorPGPiF
set_option linter.unusedVariables false
set_option linter.unusedSimpArgs false
set_option maxRecDepth 100000
namespace Go.Proofs.YtlhfemgimieooaaGreatDoor
open Go.Lib (hid)
open Go Go.ChangeShapes Go.WideShapes Go.RowKit Go.PlainAid
section
def sb (t : ByteArray) (k : Nat) : ByteArray := ⟨(t.data.toList.drop k).toArray⟩
theorem sb_size (t : ByteArray) (k : Nat) : (sb t k).size = t.size - k := by
 rw [sz_list, sz_list t]; unfold sb; simp
theorem sb_bt (t : ByteArray) {k i : Nat} (h : k + i < t.size) : bt (sb t k) i = bt t (k + i) := by
 rw [bt_at (sb t k) (by rw [sb_size]; omega), bt_at t h]
 unfold sb
 simp [List.getElem_drop]
theorem sb_sb (t : ByteArray) (k j : Nat) : sb (sb t k) j = sb t (k + j) := by
 unfold sb; simp [List.drop_drop]
theorem sb_zero (t : ByteArray) : sb t 0 = t := by
 unfold sb; simp
theorem sb_ext (t : ByteArray) (j : Nat) (h : j ≤ t.size) : t.extract j t.size = sb t j := by
 apply ByteArray.ext
 apply Array.ext'
 unfold sb
 simp
 rw [List.take_of_length_le (by rw [List.length_drop, ← sz_list]; exact Nat.le_refl _)]
theorem sb_nil (t : ByteArray) {k : Nat} (h : t.size ≤ k) : sb t k = ⟨#[]⟩ := by
 unfold sb
 rw [List.drop_eq_nil_of_le (by rw [← sz_list]; exact h)]
theorem sb_cons (t : ByteArray) {k : Nat} (h : k < t.size) : (sb t k).data.toList = t.data.toList[k]'(by rw [← sz_list]; exact h) :: (sb t (k + 1)).data.toList := by
 unfold sb
 simp [List.drop_eq_getElem_cons (show k < t.data.toList.length by rw [← sz_list]; exact h)]
theorem cut_yes (t : ByteArray) (c : UInt8) {k : Nat} (h : k < t.size) (hc : bt t k = (c.toNat : Int)) :
   (⟨(Lib.trimPrefix (sb t k).data.toList [c]).toArray⟩ : ByteArray) = sb t (k + 1) ∧ Lib.hasPrefix (sb t k).data.toList [c] = true := by
 have hx : t.data.toList[k]'(by rw [← sz_list]; exact h) = c := by
   rw [bt_at t h] at hc
   exact UInt8.toNat_inj.1 (by exact_mod_cast hc)
 have hp : Lib.hasPrefix (sb t k).data.toList [c] = true := by
   unfold Lib.hasPrefix
   rw [sb_cons t h, hx]
   simp [List.isPrefixOf]
 refine ⟨?_, hp⟩
 unfold Lib.trimPrefix
 rw [if_pos hp, sb_cons t h]
 simp
theorem cut_no (t : ByteArray) (c : UInt8) {k : Nat} (h : ¬ (k < t.size ∧ bt t k = (c.toNat : Int))) :
   (⟨(Lib.trimPrefix (sb t k).data.toList [c]).toArray⟩ : ByteArray) = sb t k ∧ Lib.hasPrefix (sb t k).data.toList [c] = false := by
 have hp : Lib.hasPrefix (sb t k).data.toList [c] = false := by
   unfold Lib.hasPrefix
   by_cases h1 : k < t.size
   · rw [sb_cons t h1]
     simp only [List.isPrefixOf, Bool.and_true]
     rw [beq_eq_false_iff_ne]
     intro e
     exact h ⟨h1, by rw [bt_at t h1, ← e]⟩
   · rw [sb_nil t (by omega)]
     rfl
 refine ⟨?_, hp⟩
 unfold Lib.trimPrefix
 rw [if_neg (by rw [hp]; simp)]
theorem cut_call (t : ByteArray) (c : UInt8) (k : Nat) (b : Bool) (r : ByteArray) (h : (⟨(Lib.trimPrefix (sb t k).data.toList [c]).toArray⟩ : ByteArray) = r ∧ Lib.hasPrefix (sb t k).data.toList [c] = b) (w : World) :
   Calls Tryz.prog 74 #[.string (sb t k), .string ⟨#[c]⟩] w fun e w' => e = .returned (.tuple #[.string r, .bool b]) ∧ w = w' := by
 refine (Tryz.strings_CutPrefix (sb t k) ⟨#[c]⟩ w).mono ?_
 rintro e w' ⟨rfl, rfl⟩
 refine ⟨?_, rfl⟩
 rw [← h.1, ← h.2]
structure Rn (t : ByteArray) (k e : Nat) : Prop where
 lo : k ≤ e
 hi : e ≤ t.size
 d : ∀ i, k ≤ i → i < e → 48 ≤ bt t i ∧ bt t i ≤ 57
 n : e < t.size → ¬ (48 ≤ bt t e ∧ bt t e ≤ 57)
theorem Rn.ex (t : ByteArray) : ∀ n k, t.size = k + n → ∃ e, Rn t k e := by
 intro n
 induction n with
 | zero => intro k h; exact ⟨k, ⟨Nat.le_refl _, by omega, fun i h1 h2 => by omega, fun h1 => by omega⟩⟩
 | succ n ih =>
   intro k h
   by_cases hd : 48 ≤ bt t k ∧ bt t k ≤ 57
   · obtain ⟨e, he⟩ := ih (k + 1) (by omega)
     refine ⟨e, ⟨by have := he.lo; omega, he.hi, fun i h1 h2 => ?_, he.n⟩⟩
     by_cases hik : i = k
     · subst hik; exact hd
     · exact he.d i (by omega) h2
   · exact ⟨k, ⟨Nat.le_refl _, by omega, fun i h1 h2 => by omega, fun _ => hd⟩⟩
theorem cutd_any (t : ByteArray) (k e : Nat) (h : Rn t k e) (hz : t.size ≤ 1000) (w : World) :
   Calls Tryz.prog 119 #[.string (sb t k)] w fun r w' => r = .returned (.tuple #[.string (sb t e), .bool (decide (k < e))]) ∧ w = w' := by
 have hs : (sb t k).size = t.size - k := sb_size t k
 have hb := get_bt (sb t k)
 obtain ⟨n, hn⟩ : ∃ n, e = k + n := ⟨e - k, by have := h.lo; omega⟩
 subst hn
 have he := h.hi
 obtain ⟨N, hN⟩ : ∃ N, t.size - k = N := ⟨_, rfl⟩
 rw [hN] at hs
 have hnN : n ≤ N := by omega
 have hNl : N ≤ 1000 := by omega
 have HD := hid (show ∀ i, i < n → 48 ≤ bt (sb t k) i ∧ bt (sb t k) i ≤ 57 from fun i hi => by
   rw [sb_bt t (by omega)]; exact h.d _ (by omega) (by omega))
 have HN := hid (show n < N → ¬ (48 ≤ bt (sb t k) n ∧ bt (sb t k) n ≤ 57) from fun hi => by
   rw [sb_bt t (by omega)]; exact h.n (by omega))
 have HX := hid (show (sb t k).extract n (sb t k).size = sb t (k + n) by rw [sb_ext _ _ (by omega), sb_sb])
 have hk : decide (k < k + n) = decide ((0 : Int) < (n : Int)) := by rw [decide_eq_decide]; omega
 rw [hk]
 have hsI : ((sb t k).size : Int) = (N : Int) := by rw [hs]
 clear h he hk hN
 generalize sb t (k + n) = r at HX ⊢
 generalize sb t k = s at hs hb HD HN HX hsI ⊢
 go_enter Tryz.func119, Tryz.ntmps119
 go_wp2_with fail
 go_loopw [4] (fun s4 wr => ∃ i : Nat, s4 = .int .i64 (i : Int) ∧ i ≤ n ∧ wr = w) (fun s4 wr => (n - RowKit.intOf s4).toNat)
 case atStart => exact ⟨0, rfl, by omega, rfl⟩
 case round =>
   obtain ⟨i, rfl, hin, rfl⟩ := hrel
   by_cases hl : i < n
   · obtain ⟨d1, d2⟩ := HD.out i hl
     have hlI : (i : Int) < (N : Int) := by omega
     have hw : IntKind.i64.wrap ((i : Int) + 1) = ((i + 1 : Nat) : Int) := by rw [IntWalk.i64_in _ (by omega)]; omega
     go_wp2_with fail
     exact ⟨⟨i + 1, by congr 1, by omega, trivial⟩, by simp only [RowKit.intOf]; omega⟩
   · have hi : i = n := by omega
     subst hi
     have hx := HX.out
     by_cases hl2 : i < N
     · have hlI : (i : Int) < (N : Int) := by omega
       have hd := HN.out hl2
       by_cases hd1 : 48 ≤ bt s i
       · have hd2 : ¬ bt s i ≤ 57 := fun h => hd ⟨hd1, h⟩
         go_wp2_with fail
         go_ret2
         exact ⟨by rw [← hx, hs]; rfl, rfl⟩
       · go_wp2_with fail
         go_ret2
         exact ⟨by rw [← hx, hs]; rfl, rfl⟩
     · have hlI : ¬ (i : Int) < (N : Int) := by omega
       go_wp2_with fail
       go_ret2
       exact ⟨by rw [← hx, hs]; rfl, rfl⟩
theorem rrun_any (t : ByteArray) (k e : Nat) (h : Rn t k e) (hz : t.size ≤ 1001) (w : World) :
   Calls Tryz.prog 125 #[.string t, .int .i64 (k : Int)] w fun r w' => r = .returned (.int .i64 (e : Int)) ∧ w = w' := by
 have hb := get_bt t
 obtain ⟨N, hN⟩ : ∃ N, t.size = N := ⟨_, rfl⟩
 have hsI : (t.size : Int) = (N : Int) := by rw [hN]
 have hlo := h.lo
 have hhi := h.hi
 rw [hN] at hz hhi
 have HD := hid h.d
 have HN := hid (show e < N → ¬ (48 ≤ bt t e ∧ bt t e ≤ 57) from fun hi => h.n (by omega))
 clear h
 go_enter Tryz.func125, Tryz.ntmps125
 go_wp2_with fail
 go_loopw [1] (fun s1 wr => ∃ i : Nat, s1 = .int .i64 (i : Int) ∧ k ≤ i ∧ i ≤ e ∧ wr = w) (fun s1 wr => (e - RowKit.intOf s1).toNat)
 case atStart => exact ⟨k, rfl, by omega, by omega, rfl⟩
 case round =>
   obtain ⟨i, rfl, hki, hie, rfl⟩ := hrel
   by_cases hl : i < e
   · obtain ⟨d1, d2⟩ := HD.out i hki hl
     have hlI : (i : Int) < (N : Int) := by omega
     have hw : IntKind.i64.wrap ((i : Int) + 1) = ((i + 1 : Nat) : Int) := by rw [IntWalk.i64_in _ (by omega)]; omega
     go_wp2_with fail
     exact ⟨⟨i + 1, by congr 1, by omega, by omega, trivial⟩, by simp only [RowKit.intOf]; omega⟩
   · have hi : i = e := by omega
     subst hi
     by_cases hl2 : i < N
     · have hlI : (i : Int) < (N : Int) := by omega
       have hd := HN.out hl2
       by_cases hd1 : 48 ≤ bt t i
       · have hd2 : ¬ bt t i ≤ 57 := fun h => hd ⟨hd1, h⟩
         go_wp2_with fail
         go_ret
         exact ⟨rfl, rfl⟩
       · go_wp2_with fail
         go_ret
         exact ⟨rfl, rfl⟩
     · have hlI : ¬ (i : Int) < (N : Int) := by omega
       go_wp2_with fail
       go_ret
       exact ⟨rfl, rfl⟩
end
section
theorem id_p (S X : ByteArray) (h1 : ∀ W, Calls Tryz.prog 119 #[.string S] W fun r w' => r = .returned (.tuple #[.string X, .bool false]) ∧ W = w') (w : World) : Calls Tryz.prog 78 #[.string S] w fun r w' => r = .returned (.bool false) ∧ w = w' := by
 have H_h1 := hid h1
 clear h1
 go_enter Tryz.func78, Tryz.ntmps78
 go_wp2_with (first
   | (go_at_call 119; (with_reducible refine (H_h1.out _).mono ?_); rintro e w9 ⟨rfl, rfl⟩)
   | fail)
 go_ret
 exact ⟨rfl, rfl⟩
theorem id_b (S A R X : ByteArray) (h1 : ∀ W, Calls Tryz.prog 119 #[.string S] W fun r w' => r = .returned (.tuple #[.string A, .bool true]) ∧ W = w') (h2 : ∀ W, Calls Tryz.prog 74 #[.string A, .string ⟨#[46]⟩] W fun r w' => r = .returned (.tuple #[.string R, .bool true]) ∧ W = w') (h3 : ∀ W, Calls Tryz.prog 119 #[.string R] W fun r w' => r = .returned (.tuple #[.string X, .bool false]) ∧ W = w') (w : World) : Calls Tryz.prog 78 #[.string S] w fun r w' => r = .returned (.bool false) ∧ w = w' := by
 have H_h1 := hid h1
 have H_h2 := hid h2
 have H_h3 := hid h3
 clear h1 h2 h3
 go_enter Tryz.func78, Tryz.ntmps78
 go_wp2_with (first
   | (go_at_call 119; (with_reducible refine (H_h1.out _).mono ?_); rintro e w9 ⟨rfl, rfl⟩)
   | (go_at_call 74; (with_reducible refine (H_h2.out _).mono ?_); rintro e w9 ⟨rfl, rfl⟩)
   | (go_at_call 119; (with_reducible refine (H_h3.out _).mono ?_); rintro e w9 ⟨rfl, rfl⟩)
   | fail)
 go_ret
 exact ⟨rfl, rfl⟩
theorem id_a_t0 (S P : ByteArray) (X : ByteArray) (h1 : ∀ W, Calls Tryz.prog 119 #[.string S] W fun r w' => r = .returned (.tuple #[.string P, .bool true]) ∧ W = w') (h2 : ∀ W, Calls Tryz.prog 74 #[.string P, .string ⟨#[46]⟩] W fun r w' => r = .returned (.tuple #[.string P, .bool false]) ∧ W = w') (h4 : ∀ W, Calls Tryz.prog 74 #[.string P, .string ⟨#[101]⟩] W fun r w' => r = .returned (.tuple #[.string X, .bool false]) ∧ W = w') (hP : P.toList.isEmpty = false) (w : World) : Calls Tryz.prog 78 #[.string S] w fun r w' => r = .returned (.bool false) ∧ w = w' := by
 have H_h1 := hid h1
 have H_h2 := hid h2
 have H_h4 := hid h4
 clear h1 h2 h4
 go_enter Tryz.func78, Tryz.ntmps78
 go_wp2_with (first
   | (go_at_call 119; (with_reducible refine (H_h1.out _).mono ?_); rintro e w9 ⟨rfl, rfl⟩)
   | (go_at_call 74; (with_reducible refine (H_h2.out _).mono ?_); rintro e w9 ⟨rfl, rfl⟩)
   | (go_at_call 74; (with_reducible refine (H_h4.out _).mono ?_); rintro e w9 ⟨rfl, rfl⟩)
   | fail)
 go_ret
 exact ⟨rfl, rfl⟩
theorem id_a_t1 (S P : ByteArray) (X : ByteArray) (h1 : ∀ W, Calls Tryz.prog 119 #[.string S] W fun r w' => r = .returned (.tuple #[.string P, .bool true]) ∧ W = w') (h2 : ∀ W, Calls Tryz.prog 74 #[.string P, .string ⟨#[46]⟩] W fun r w' => r = .returned (.tuple #[.string P, .bool false]) ∧ W = w') (h4 : ∀ W, Calls Tryz.prog 74 #[.string P, .string ⟨#[101]⟩] W fun r w' => r = .returned (.tuple #[.string X, .bool false]) ∧ W = w') (hP : P.toList.isEmpty = true) (w : World) : Calls Tryz.prog 78 #[.string S] w fun r w' => r = .returned (.bool true) ∧ w = w' := by
 have H_h1 := hid h1
 have H_h2 := hid h2
 have H_h4 := hid h4
 clear h1 h2 h4
 go_enter Tryz.func78, Tryz.ntmps78
 go_wp2_with (first
   | (go_at_call 119; (with_reducible refine (H_h1.out _).mono ?_); rintro e w9 ⟨rfl, rfl⟩)
   | (go_at_call 74; (with_reducible refine (H_h2.out _).mono ?_); rintro e w9 ⟨rfl, rfl⟩)
   | (go_at_call 74; (with_reducible refine (H_h4.out _).mono ?_); rintro e w9 ⟨rfl, rfl⟩)
   | fail)
 go_ret
 exact ⟨rfl, rfl⟩
theorem id_a_e1 (S P : ByteArray) (X : ByteArray) (h1 : ∀ W, Calls Tryz.prog 119 #[.string S] W fun r w' => r = .returned (.tuple #[.string P, .bool true]) ∧ W = w') (h2 : ∀ W, Calls Tryz.prog 74 #[.string P, .string ⟨#[46]⟩] W fun r w' => r = .returned (.tuple #[.string P, .bool false]) ∧ W = w') (h4 : ∀ W, Calls Tryz.prog 74 #[.string P, .string ⟨#[101]⟩] W fun r w' => r = .returned (.tuple #[.string ⟨#[]⟩, .bool true]) ∧ W = w') (h5 : ∀ W, Calls Tryz.prog 119 #[.string ⟨#[]⟩] W fun r w' => r = .returned (.tuple #[.string X, .bool false]) ∧ W = w') (w : World) : Calls Tryz.prog 78 #[.string S] w fun r w' => r = .returned (.bool false) ∧ w = w' := by
 have H_h1 := hid h1
 have H_h2 := hid h2
 have H_h4 := hid h4
 have H_h5 := hid h5
 clear h1 h2 h4 h5
 go_enter Tryz.func78, Tryz.ntmps78
 go_wp2_with (first
   | (go_at_call 119; (with_reducible refine (H_h1.out _).mono ?_); rintro e w9 ⟨rfl, rfl⟩)
   | (go_at_call 74; (with_reducible refine (H_h2.out _).mono ?_); rintro e w9 ⟨rfl, rfl⟩)
   | (go_at_call 74; (with_reducible refine (H_h4.out _).mono ?_); rintro e w9 ⟨rfl, rfl⟩)
   | (go_at_call 119; (with_reducible refine (H_h5.out _).mono ?_); rintro e w9 ⟨rfl, rfl⟩)
   | fail)
 go_ret
 exact ⟨rfl, rfl⟩
theorem id_a_nf (S P : ByteArray) (R2 Z : ByteArray) (h1 : ∀ W, Calls Tryz.prog 119 #[.string S] W fun r w' => r = .returned (.tuple #[.string P, .bool true]) ∧ W = w') (h2 : ∀ W, Calls Tryz.prog 74 #[.string P, .string ⟨#[46]⟩] W fun r w' => r = .returned (.tuple #[.string P, .bool false]) ∧ W = w') (h4 : ∀ W, Calls Tryz.prog 74 #[.string P, .string ⟨#[101]⟩] W fun r w' => r = .returned (.tuple #[.string R2, .bool true]) ∧ W = w') (h5 : ∀ W, Calls Tryz.prog 119 #[.string R2] W fun r w' => r = .returned (.tuple #[.string Z, .bool false]) ∧ W = w') (hn : R2.toList.isEmpty = false) (h0 : 0 < R2.size) (h43 : (bt R2 0 == 43) = false) (h45 : (bt R2 0 == 45) = false) (w : World) : Calls Tryz.prog 78 #[.string S] w fun r w' => r = .returned (.bool false) ∧ w = w' := by
 have hb := get_bt R2
 have H_h1 := hid h1
 have H_h2 := hid h2
 have H_h4 := hid h4
 have H_h5 := hid h5
 clear h1 h2 h4 h5
 go_enter Tryz.func78, Tryz.ntmps78
 go_wp2_with (first
   | (go_at_call 119; (with_reducible refine (H_h1.out _).mono ?_); rintro e w9 ⟨rfl, rfl⟩)
   | (go_at_call 74; (with_reducible refine (H_h2.out _).mono ?_); rintro e w9 ⟨rfl, rfl⟩)
   | (go_at_call 74; (with_reducible refine (H_h4.out _).mono ?_); rintro e w9 ⟨rfl, rfl⟩)
   | (go_at_call 119; (with_reducible refine (H_h5.out _).mono ?_); rintro e w9 ⟨rfl, rfl⟩)
   | fail)
 go_ret
 exact ⟨rfl, rfl⟩
theorem id_a_n0 (S P : ByteArray) (R2 Z : ByteArray) (h1 : ∀ W, Calls Tryz.prog 119 #[.string S] W fun r w' => r = .returned (.tuple #[.string P, .bool true]) ∧ W = w') (h2 : ∀ W, Calls Tryz.prog 74 #[.string P, .string ⟨#[46]⟩] W fun r w' => r = .returned (.tuple #[.string P, .bool false]) ∧ W = w') (h4 : ∀ W, Calls Tryz.prog 74 #[.string P, .string ⟨#[101]⟩] W fun r w' => r = .returned (.tuple #[.string R2, .bool true]) ∧ W = w') (h5 : ∀ W, Calls Tryz.prog 119 #[.string R2] W fun r w' => r = .returned (.tuple #[.string Z, .bool true]) ∧ W = w') (hZ : Z.toList.isEmpty = false) (hn : R2.toList.isEmpty = false) (h0 : 0 < R2.size) (h43 : (bt R2 0 == 43) = false) (h45 : (bt R2 0 == 45) = false) (w : World) : Calls Tryz.prog 78 #[.string S] w fun r w' => r = .returned (.bool false) ∧ w = w' := by
 have hb := get_bt R2
 have H_h1 := hid h1
 have H_h2 := hid h2
 have H_h4 := hid h4
 have H_h5 := hid h5
 clear h1 h2 h4 h5
 go_enter Tryz.func78, Tryz.ntmps78
 go_wp2_with (first
   | (go_at_call 119; (with_reducible refine (H_h1.out _).mono ?_); rintro e w9 ⟨rfl, rfl⟩)
   | (go_at_call 74; (with_reducible refine (H_h2.out _).mono ?_); rintro e w9 ⟨rfl, rfl⟩)
   | (go_at_call 74; (with_reducible refine (H_h4.out _).mono ?_); rintro e w9 ⟨rfl, rfl⟩)
   | (go_at_call 119; (with_reducible refine (H_h5.out _).mono ?_); rintro e w9 ⟨rfl, rfl⟩)
   | fail)
 go_ret
 exact ⟨rfl, rfl⟩
theorem id_a_n1 (S P : ByteArray) (R2 Z : ByteArray) (h1 : ∀ W, Calls Tryz.prog 119 #[.string S] W fun r w' => r = .returned (.tuple #[.string P, .bool true]) ∧ W = w') (h2 : ∀ W, Calls Tryz.prog 74 #[.string P, .string ⟨#[46]⟩] W fun r w' => r = .returned (.tuple #[.string P, .bool false]) ∧ W = w') (h4 : ∀ W, Calls Tryz.prog 74 #[.string P, .string ⟨#[101]⟩] W fun r w' => r = .returned (.tuple #[.string R2, .bool true]) ∧ W = w') (h5 : ∀ W, Calls Tryz.prog 119 #[.string R2] W fun r w' => r = .returned (.tuple #[.string Z, .bool true]) ∧ W = w') (hZ : Z.toList.isEmpty = true) (hn : R2.toList.isEmpty = false) (h0 : 0 < R2.size) (h43 : (bt R2 0 == 43) = false) (h45 : (bt R2 0 == 45) = false) (w : World) : Calls Tryz.prog 78 #[.string S] w fun r w' => r = .returned (.bool true) ∧ w = w' := by
 have hb := get_bt R2
 have H_h1 := hid h1
 have H_h2 := hid h2
 have H_h4 := hid h4
 have H_h5 := hid h5
 clear h1 h2 h4 h5
 go_enter Tryz.func78, Tryz.ntmps78
 go_wp2_with (first
   | (go_at_call 119; (with_reducible refine (H_h1.out _).mono ?_); rintro e w9 ⟨rfl, rfl⟩)
   | (go_at_call 74; (with_reducible refine (H_h2.out _).mono ?_); rintro e w9 ⟨rfl, rfl⟩)
   | (go_at_call 74; (with_reducible refine (H_h4.out _).mono ?_); rintro e w9 ⟨rfl, rfl⟩)
   | (go_at_call 119; (with_reducible refine (H_h5.out _).mono ?_); rintro e w9 ⟨rfl, rfl⟩)
   | fail)
 go_ret
 exact ⟨rfl, rfl⟩
theorem id_a_uf (S P : ByteArray) (R2 R3 Z : ByteArray) (h1 : ∀ W, Calls Tryz.prog 119 #[.string S] W fun r w' => r = .returned (.tuple #[.string P, .bool true]) ∧ W = w') (h2 : ∀ W, Calls Tryz.prog 74 #[.string P, .string ⟨#[46]⟩] W fun r w' => r = .returned (.tuple #[.string P, .bool false]) ∧ W = w') (h4 : ∀ W, Calls Tryz.prog 74 #[.string P, .string ⟨#[101]⟩] W fun r w' => r = .returned (.tuple #[.string R2, .bool true]) ∧ W = w') (h5 : ∀ W, Calls Tryz.prog 119 #[.string R3] W fun r w' => r = .returned (.tuple #[.string Z, .bool false]) ∧ W = w') (hn : R2.toList.isEmpty = false) (h0 : 0 < R2.size) (h43 : (bt R2 0 == 43) = true) (hx : R2.extract 1 R2.size = R3) (w : World) : Calls Tryz.prog 78 #[.string S] w fun r w' => r = .returned (.bool false) ∧ w = w' := by
 have hb := get_bt R2
 have H_h1 := hid h1
 have H_h2 := hid h2
 have H_h4 := hid h4
 have H_h5 := hid h5
 clear h1 h2 h4 h5
 go_enter Tryz.func78, Tryz.ntmps78
 go_wp2_with (first
   | (go_at_call 119; (with_reducible refine (H_h1.out _).mono ?_); rintro e w9 ⟨rfl, rfl⟩)
   | (go_at_call 74; (with_reducible refine (H_h2.out _).mono ?_); rintro e w9 ⟨rfl, rfl⟩)
   | (go_at_call 74; (with_reducible refine (H_h4.out _).mono ?_); rintro e w9 ⟨rfl, rfl⟩)
   | (go_at_call 119; (with_reducible refine (H_h5.out _).mono ?_); rintro e w9 ⟨rfl, rfl⟩)
   | fail)
 go_ret
 exact ⟨rfl, rfl⟩
theorem id_a_u0 (S P : ByteArray) (R2 R3 Z : ByteArray) (h1 : ∀ W, Calls Tryz.prog 119 #[.string S] W fun r w' => r = .returned (.tuple #[.string P, .bool true]) ∧ W = w') (h2 : ∀ W, Calls Tryz.prog 74 #[.string P, .string ⟨#[46]⟩] W fun r w' => r = .returned (.tuple #[.string P, .bool false]) ∧ W = w') (h4 : ∀ W, Calls Tryz.prog 74 #[.string P, .string ⟨#[101]⟩] W fun r w' => r = .returned (.tuple #[.string R2, .bool true]) ∧ W = w') (h5 : ∀ W, Calls Tryz.prog 119 #[.string R3] W fun r w' => r = .returned (.tuple #[.string Z, .bool true]) ∧ W = w') (hZ : Z.toList.isEmpty = false) (hn : R2.toList.isEmpty = false) (h0 : 0 < R2.size) (h43 : (bt R2 0 == 43) = true) (hx : R2.extract 1 R2.size = R3) (w : World) : Calls Tryz.prog 78 #[.string S] w fun r w' => r = .returned (.bool false) ∧ w = w' := by
 have hb := get_bt R2
 have H_h1 := hid h1
 have H_h2 := hid h2
 have H_h4 := hid h4
 have H_h5 := hid h5
 clear h1 h2 h4 h5
 go_enter Tryz.func78, Tryz.ntmps78
 go_wp2_with (first
   | (go_at_call 119; (with_reducible refine (H_h1.out _).mono ?_); rintro e w9 ⟨rfl, rfl⟩)
   | (go_at_call 74; (with_reducible refine (H_h2.out _).mono ?_); rintro e w9 ⟨rfl, rfl⟩)
   | (go_at_call 74; (with_reducible refine (H_h4.out _).mono ?_); rintro e w9 ⟨rfl, rfl⟩)
   | (go_at_call 119; (with_reducible refine (H_h5.out _).mono ?_); rintro e w9 ⟨rfl, rfl⟩)
   | fail)
 go_ret
 exact ⟨rfl, rfl⟩
theorem id_a_u1 (S P : ByteArray) (R2 R3 Z : ByteArray) (h1 : ∀ W, Calls Tryz.prog 119 #[.string S] W fun r w' => r = .returned (.tuple #[.string P, .bool true]) ∧ W = w') (h2 : ∀ W, Calls Tryz.prog 74 #[.string P, .string ⟨#[46]⟩] W fun r w' => r = .returned (.tuple #[.string P, .bool false]) ∧ W = w') (h4 : ∀ W, Calls Tryz.prog 74 #[.string P, .string ⟨#[101]⟩] W fun r w' => r = .returned (.tuple #[.string R2, .bool true]) ∧ W = w') (h5 : ∀ W, Calls Tryz.prog 119 #[.string R3] W fun r w' => r = .returned (.tuple #[.string Z, .bool true]) ∧ W = w') (hZ : Z.toList.isEmpty = true) (hn : R2.toList.isEmpty = false) (h0 : 0 < R2.size) (h43 : (bt R2 0 == 43) = true) (hx : R2.extract 1 R2.size = R3) (w : World) : Calls Tryz.prog 78 #[.string S] w fun r w' => r = .returned (.bool true) ∧ w = w' := by
 have hb := get_bt R2
 have H_h1 := hid h1
 have H_h2 := hid h2
 have H_h4 := hid h4
 have H_h5 := hid h5
 clear h1 h2 h4 h5
 go_enter Tryz.func78, Tryz.ntmps78
 go_wp2_with (first
   | (go_at_call 119; (with_reducible refine (H_h1.out _).mono ?_); rintro e w9 ⟨rfl, rfl⟩)
   | (go_at_call 74; (with_reducible refine (H_h2.out _).mono ?_); rintro e w9 ⟨rfl, rfl⟩)
   | (go_at_call 74; (with_reducible refine (H_h4.out _).mono ?_); rintro e w9 ⟨rfl, rfl⟩)
   | (go_at_call 119; (with_reducible refine (H_h5.out _).mono ?_); rintro e w9 ⟨rfl, rfl⟩)
   | fail)
 go_ret
 exact ⟨rfl, rfl⟩
theorem id_a_mf (S P : ByteArray) (R2 R3 Z : ByteArray) (h1 : ∀ W, Calls Tryz.prog 119 #[.string S] W fun r w' => r = .returned (.tuple #[.string P, .bool true]) ∧ W = w') (h2 : ∀ W, Calls Tryz.prog 74 #[.string P, .string ⟨#[46]⟩] W fun r w' => r = .returned (.tuple #[.string P, .bool false]) ∧ W = w') (h4 : ∀ W, Calls Tryz.prog 74 #[.string P, .string ⟨#[101]⟩] W fun r w' => r = .returned (.tuple #[.string R2, .bool true]) ∧ W = w') (h5 : ∀ W, Calls Tryz.prog 119 #[.string R3] W fun r w' => r = .returned (.tuple #[.string Z, .bool false]) ∧ W = w') (hn : R2.toList.isEmpty = false) (h0 : 0 < R2.size) (h43 : (bt R2 0 == 43) = false) (h45 : (bt R2 0 == 45) = true) (hx : R2.extract 1 R2.size = R3) (w : World) : Calls Tryz.prog 78 #[.string S] w fun r w' => r = .returned (.bool false) ∧ w = w' := by
 have hb := get_bt R2
 have H_h1 := hid h1
 have H_h2 := hid h2
 have H_h4 := hid h4
 have H_h5 := hid h5
 clear h1 h2 h4 h5
 go_enter Tryz.func78, Tryz.ntmps78
 go_wp2_with (first
   | (go_at_call 119; (with_reducible refine (H_h1.out _).mono ?_); rintro e w9 ⟨rfl, rfl⟩)
   | (go_at_call 74; (with_reducible refine (H_h2.out _).mono ?_); rintro e w9 ⟨rfl, rfl⟩)
   | (go_at_call 74; (with_reducible refine (H_h4.out _).mono ?_); rintro e w9 ⟨rfl, rfl⟩)
   | (go_at_call 119; (with_reducible refine (H_h5.out _).mono ?_); rintro e w9 ⟨rfl, rfl⟩)
   | fail)
 go_ret
 exact ⟨rfl, rfl⟩
theorem id_a_m0 (S P : ByteArray) (R2 R3 Z : ByteArray) (h1 : ∀ W, Calls Tryz.prog 119 #[.string S] W fun r w' => r = .returned (.tuple #[.string P, .bool true]) ∧ W = w') (h2 : ∀ W, Calls Tryz.prog 74 #[.string P, .string ⟨#[46]⟩] W fun r w' => r = .returned (.tuple #[.string P, .bool false]) ∧ W = w') (h4 : ∀ W, Calls Tryz.prog 74 #[.string P, .string ⟨#[101]⟩] W fun r w' => r = .returned (.tuple #[.string R2, .bool true]) ∧ W = w') (h5 : ∀ W, Calls Tryz.prog 119 #[.string R3] W fun r w' => r = .returned (.tuple #[.string Z, .bool true]) ∧ W = w') (hZ : Z.toList.isEmpty = false) (hn : R2.toList.isEmpty = false) (h0 : 0 < R2.size) (h43 : (bt R2 0 == 43) = false) (h45 : (bt R2 0 == 45) = true) (hx : R2.extract 1 R2.size = R3) (w : World) : Calls Tryz.prog 78 #[.string S] w fun r w' => r = .returned (.bool false) ∧ w = w' := by
 have hb := get_bt R2
 have H_h1 := hid h1
 have H_h2 := hid h2
 have H_h4 := hid h4
 have H_h5 := hid h5
 clear h1 h2 h4 h5
 go_enter Tryz.func78, Tryz.ntmps78
 go_wp2_with (first
   | (go_at_call 119; (with_reducible refine (H_h1.out _).mono ?_); rintro e w9 ⟨rfl, rfl⟩)
   | (go_at_call 74; (with_reducible refine (H_h2.out _).mono ?_); rintro e w9 ⟨rfl, rfl⟩)
   | (go_at_call 74; (with_reducible refine (H_h4.out _).mono ?_); rintro e w9 ⟨rfl, rfl⟩)
   | (go_at_call 119; (with_reducible refine (H_h5.out _).mono ?_); rintro e w9 ⟨rfl, rfl⟩)
   | fail)
 go_ret
 exact ⟨rfl, rfl⟩
theorem id_a_m1 (S P : ByteArray) (R2 R3 Z : ByteArray) (h1 : ∀ W, Calls Tryz.prog 119 #[.string S] W fun r w' => r = .returned (.tuple #[.string P, .bool true]) ∧ W = w') (h2 : ∀ W, Calls Tryz.prog 74 #[.string P, .string ⟨#[46]⟩] W fun r w' => r = .returned (.tuple #[.string P, .bool false]) ∧ W = w') (h4 : ∀ W, Calls Tryz.prog 74 #[.string P, .string ⟨#[101]⟩] W fun r w' => r = .returned (.tuple #[.string R2, .bool true]) ∧ W = w') (h5 : ∀ W, Calls Tryz.prog 119 #[.string R3] W fun r w' => r = .returned (.tuple #[.string Z, .bool true]) ∧ W = w') (hZ : Z.toList.isEmpty = true) (hn : R2.toList.isEmpty = false) (h0 : 0 < R2.size) (h43 : (bt R2 0 == 43) = false) (h45 : (bt R2 0 == 45) = true) (hx : R2.extract 1 R2.size = R3) (w : World) : Calls Tryz.prog 78 #[.string S] w fun r w' => r = .returned (.bool true) ∧ w = w' := by
 have hb := get_bt R2
 have H_h1 := hid h1
 have H_h2 := hid h2
 have H_h4 := hid h4
 have H_h5 := hid h5
 clear h1 h2 h4 h5
 go_enter Tryz.func78, Tryz.ntmps78
 go_wp2_with (first
   | (go_at_call 119; (with_reducible refine (H_h1.out _).mono ?_); rintro e w9 ⟨rfl, rfl⟩)
   | (go_at_call 74; (with_reducible refine (H_h2.out _).mono ?_); rintro e w9 ⟨rfl, rfl⟩)
   | (go_at_call 74; (with_reducible refine (H_h4.out _).mono ?_); rintro e w9 ⟨rfl, rfl⟩)
   | (go_at_call 119; (with_reducible refine (H_h5.out _).mono ?_); rintro e w9 ⟨rfl, rfl⟩)
   | fail)
 go_ret
 exact ⟨rfl, rfl⟩
theorem id_c_t0 (S A R P : ByteArray) (X : ByteArray) (h1 : ∀ W, Calls Tryz.prog 119 #[.string S] W fun r w' => r = .returned (.tuple #[.string A, .bool true]) ∧ W = w') (h2 : ∀ W, Calls Tryz.prog 74 #[.string A, .string ⟨#[46]⟩] W fun r w' => r = .returned (.tuple #[.string R, .bool true]) ∧ W = w') (h3 : ∀ W, Calls Tryz.prog 119 #[.string R] W fun r w' => r = .returned (.tuple #[.string P, .bool true]) ∧ W = w') (h4 : ∀ W, Calls Tryz.prog 74 #[.string P, .string ⟨#[101]⟩] W fun r w' => r = .returned (.tuple #[.string X, .bool false]) ∧ W = w') (hP : P.toList.isEmpty = false) (w : World) : Calls Tryz.prog 78 #[.string S] w fun r w' => r = .returned (.bool false) ∧ w = w' := by
 have H_h1 := hid h1
 have H_h2 := hid h2
 have H_h3 := hid h3
 have H_h4 := hid h4
 clear h1 h2 h3 h4
 go_enter Tryz.func78, Tryz.ntmps78
 go_wp2_with (first
   | (go_at_call 119; (with_reducible refine (H_h1.out _).mono ?_); rintro e w9 ⟨rfl, rfl⟩)
   | (go_at_call 74; (with_reducible refine (H_h2.out _).mono ?_); rintro e w9 ⟨rfl, rfl⟩)
   | (go_at_call 119; (with_reducible refine (H_h3.out _).mono ?_); rintro e w9 ⟨rfl, rfl⟩)
   | (go_at_call 74; (with_reducible refine (H_h4.out _).mono ?_); rintro e w9 ⟨rfl, rfl⟩)
   | fail)
 go_ret
 exact ⟨rfl, rfl⟩
theorem id_c_t1 (S A R P : ByteArray) (X : ByteArray) (h1 : ∀ W, Calls Tryz.prog 119 #[.string S] W fun r w' => r = .returned (.tuple #[.string A, .bool true]) ∧ W = w') (h2 : ∀ W, Calls Tryz.prog 74 #[.string A, .string ⟨#[46]⟩] W fun r w' => r = .returned (.tuple #[.string R, .bool true]) ∧ W = w') (h3 : ∀ W, Calls Tryz.prog 119 #[.string R] W fun r w' => r = .returned (.tuple #[.string P, .bool true]) ∧ W = w') (h4 : ∀ W, Calls Tryz.prog 74 #[.string P, .string ⟨#[101]⟩] W fun r w' => r = .returned (.tuple #[.string X, .bool false]) ∧ W = w') (hP : P.toList.isEmpty = true) (w : World) : Calls Tryz.prog 78 #[.string S] w fun r w' => r = .returned (.bool true) ∧ w = w' := by
 have H_h1 := hid h1
 have H_h2 := hid h2
 have H_h3 := hid h3
 have H_h4 := hid h4
 clear h1 h2 h3 h4
 go_enter Tryz.func78, Tryz.ntmps78
 go_wp2_with (first
   | (go_at_call 119; (with_reducible refine (H_h1.out _).mono ?_); rintro e w9 ⟨rfl, rfl⟩)
   | (go_at_call 74; (with_reducible refine (H_h2.out _).mono ?_); rintro e w9 ⟨rfl, rfl⟩)
   | (go_at_call 119; (with_reducible refine (H_h3.out _).mono ?_); rintro e w9 ⟨rfl, rfl⟩)
   | (go_at_call 74; (with_reducible refine (H_h4.out _).mono ?_); rintro e w9 ⟨rfl, rfl⟩)
   | fail)
 go_ret
 exact ⟨rfl, rfl⟩
theorem id_c_e1 (S A R P : ByteArray) (X : ByteArray) (h1 : ∀ W, Calls Tryz.prog 119 #[.string S] W fun r w' => r = .returned (.tuple #[.string A, .bool true]) ∧ W = w') (h2 : ∀ W, Calls Tryz.prog 74 #[.string A, .string ⟨#[46]⟩] W fun r w' => r = .returned (.tuple #[.string R, .bool true]) ∧ W = w') (h3 : ∀ W, Calls Tryz.prog 119 #[.string R] W fun r w' => r = .returned (.tuple #[.string P, .bool true]) ∧ W = w') (h4 : ∀ W, Calls Tryz.prog 74 #[.string P, .string ⟨#[101]⟩] W fun r w' => r = .returned (.tuple #[.string ⟨#[]⟩, .bool true]) ∧ W = w') (h5 : ∀ W, Calls Tryz.prog 119 #[.string ⟨#[]⟩] W fun r w' => r = .returned (.tuple #[.string X, .bool false]) ∧ W = w') (w : World) : Calls Tryz.prog 78 #[.string S] w fun r w' => r = .returned (.bool false) ∧ w = w' := by
 have H_h1 := hid h1
 have H_h2 := hid h2
 have H_h3 := hid h3
 have H_h4 := hid h4
 have H_h5 := hid h5
 clear h1 h2 h3 h4 h5
 go_enter Tryz.func78, Tryz.ntmps78
 go_wp2_with (first
   | (go_at_call 119; (with_reducible refine (H_h1.out _).mono ?_); rintro e w9 ⟨rfl, rfl⟩)
   | (go_at_call 74; (with_reducible refine (H_h2.out _).mono ?_); rintro e w9 ⟨rfl, rfl⟩)
   | (go_at_call 119; (with_reducible refine (H_h3.out _).mono ?_); rintro e w9 ⟨rfl, rfl⟩)
   | (go_at_call 74; (with_reducible refine (H_h4.out _).mono ?_); rintro e w9 ⟨rfl, rfl⟩)
   | (go_at_call 119; (with_reducible refine (H_h5.out _).mono ?_); rintro e w9 ⟨rfl, rfl⟩)
   | fail)
 go_ret
 exact ⟨rfl, rfl⟩
theorem id_c_nf (S A R P : ByteArray) (R2 Z : ByteArray) (h1 : ∀ W, Calls Tryz.prog 119 #[.string S] W fun r w' => r = .returned (.tuple #[.string A, .bool true]) ∧ W = w') (h2 : ∀ W, Calls Tryz.prog 74 #[.string A, .string ⟨#[46]⟩] W fun r w' => r = .returned (.tuple #[.string R, .bool true]) ∧ W = w') (h3 : ∀ W, Calls Tryz.prog 119 #[.string R] W fun r w' => r = .returned (.tuple #[.string P, .bool true]) ∧ W = w') (h4 : ∀ W, Calls Tryz.prog 74 #[.string P, .string ⟨#[101]⟩] W fun r w' => r = .returned (.tuple #[.string R2, .bool true]) ∧ W = w') (h5 : ∀ W, Calls Tryz.prog 119 #[.string R2] W fun r w' => r = .returned (.tuple #[.string Z, .bool false]) ∧ W = w') (hn : R2.toList.isEmpty = false) (h0 : 0 < R2.size) (h43 : (bt R2 0 == 43) = false) (h45 : (bt R2 0 == 45) = false) (w : World) : Calls Tryz.prog 78 #[.string S] w fun r w' => r = .returned (.bool false) ∧ w = w' := by
 have hb := get_bt R2
 have H_h1 := hid h1
 have H_h2 := hid h2
 have H_h3 := hid h3
 have H_h4 := hid h4
 have H_h5 := hid h5
 clear h1 h2 h3 h4 h5
 go_enter Tryz.func78, Tryz.ntmps78
 go_wp2_with (first
   | (go_at_call 119; (with_reducible refine (H_h1.out _).mono ?_); rintro e w9 ⟨rfl, rfl⟩)
   | (go_at_call 74; (with_reducible refine (H_h2.out _).mono ?_); rintro e w9 ⟨rfl, rfl⟩)
   | (go_at_call 119; (with_reducible refine (H_h3.out _).mono ?_); rintro e w9 ⟨rfl, rfl⟩)
   | (go_at_call 74; (with_reducible refine (H_h4.out _).mono ?_); rintro e w9 ⟨rfl, rfl⟩)
   | (go_at_call 119; (with_reducible refine (H_h5.out _).mono ?_); rintro e w9 ⟨rfl, rfl⟩)
   | fail)
 go_ret
 exact ⟨rfl, rfl⟩
theorem id_c_n0 (S A R P : ByteArray) (R2 Z : ByteArray) (h1 : ∀ W, Calls Tryz.prog 119 #[.string S] W fun r w' => r = .returned (.tuple #[.string A, .bool true]) ∧ W = w') (h2 : ∀ W, Calls Tryz.prog 74 #[.string A, .string ⟨#[46]⟩] W fun r w' => r = .returned (.tuple #[.string R, .bool true]) ∧ W = w') (h3 : ∀ W, Calls Tryz.prog 119 #[.string R] W fun r w' => r = .returned (.tuple #[.string P, .bool true]) ∧ W = w') (h4 : ∀ W, Calls Tryz.prog 74 #[.string P, .string ⟨#[101]⟩] W fun r w' => r = .returned (.tuple #[.string R2, .bool true]) ∧ W = w') (h5 : ∀ W, Calls Tryz.prog 119 #[.string R2] W fun r w' => r = .returned (.tuple #[.string Z, .bool true]) ∧ W = w') (hZ : Z.toList.isEmpty = false) (hn : R2.toList.isEmpty = false) (h0 : 0 < R2.size) (h43 : (bt R2 0 == 43) = false) (h45 : (bt R2 0 == 45) = false) (w : World) : Calls Tryz.prog 78 #[.string S] w fun r w' => r = .returned (.bool false) ∧ w = w' := by
 have hb := get_bt R2
 have H_h1 := hid h1
 have H_h2 := hid h2
 have H_h3 := hid h3
 have H_h4 := hid h4
 have H_h5 := hid h5
 clear h1 h2 h3 h4 h5
 go_enter Tryz.func78, Tryz.ntmps78
 go_wp2_with (first
   | (go_at_call 119; (with_reducible refine (H_h1.out _).mono ?_); rintro e w9 ⟨rfl, rfl⟩)
   | (go_at_call 74; (with_reducible refine (H_h2.out _).mono ?_); rintro e w9 ⟨rfl, rfl⟩)
   | (go_at_call 119; (with_reducible refine (H_h3.out _).mono ?_); rintro e w9 ⟨rfl, rfl⟩)
   | (go_at_call 74; (with_reducible refine (H_h4.out _).mono ?_); rintro e w9 ⟨rfl, rfl⟩)
   | (go_at_call 119; (with_reducible refine (H_h5.out _).mono ?_); rintro e w9 ⟨rfl, rfl⟩)
   | fail)
 go_ret
 exact ⟨rfl, rfl⟩
theorem id_c_n1 (S A R P : ByteArray) (R2 Z : ByteArray) (h1 : ∀ W, Calls Tryz.prog 119 #[.string S] W fun r w' => r = .returned (.tuple #[.string A, .bool true]) ∧ W = w') (h2 : ∀ W, Calls Tryz.prog 74 #[.string A, .string ⟨#[46]⟩] W fun r w' => r = .returned (.tuple #[.string R, .bool true]) ∧ W = w') (h3 : ∀ W, Calls Tryz.prog 119 #[.string R] W fun r w' => r = .returned (.tuple #[.string P, .bool true]) ∧ W = w') (h4 : ∀ W, Calls Tryz.prog 74 #[.string P, .string ⟨#[101]⟩] W fun r w' => r = .returned (.tuple #[.string R2, .bool true]) ∧ W = w') (h5 : ∀ W, Calls Tryz.prog 119 #[.string R2] W fun r w' => r = .returned (.tuple #[.string Z, .bool true]) ∧ W = w') (hZ : Z.toList.isEmpty = true) (hn : R2.toList.isEmpty = false) (h0 : 0 < R2.size) (h43 : (bt R2 0 == 43) = false) (h45 : (bt R2 0 == 45) = false) (w : World) : Calls Tryz.prog 78 #[.string S] w fun r w' => r = .returned (.bool true) ∧ w = w' := by
 have hb := get_bt R2
 have H_h1 := hid h1
 have H_h2 := hid h2
 have H_h3 := hid h3
 have H_h4 := hid h4
 have H_h5 := hid h5
 clear h1 h2 h3 h4 h5
 go_enter Tryz.func78, Tryz.ntmps78
 go_wp2_with (first
   | (go_at_call 119; (with_reducible refine (H_h1.out _).mono ?_); rintro e w9 ⟨rfl, rfl⟩)
   | (go_at_call 74; (with_reducible refine (H_h2.out _).mono ?_); rintro e w9 ⟨rfl, rfl⟩)
   | (go_at_call 119; (with_reducible refine (H_h3.out _).mono ?_); rintro e w9 ⟨rfl, rfl⟩)
   | (go_at_call 74; (with_reducible refine (H_h4.out _).mono ?_); rintro e w9 ⟨rfl, rfl⟩)
   | (go_at_call 119; (with_reducible refine (H_h5.out _).mono ?_); rintro e w9 ⟨rfl, rfl⟩)
   | fail)
 go_ret
 exact ⟨rfl, rfl⟩
theorem id_c_uf (S A R P : ByteArray) (R2 R3 Z : ByteArray) (h1 : ∀ W, Calls Tryz.prog 119 #[.string S] W fun r w' => r = .returned (.tuple #[.string A, .bool true]) ∧ W = w') (h2 : ∀ W, Calls Tryz.prog 74 #[.string A, .string ⟨#[46]⟩] W fun r w' => r = .returned (.tuple #[.string R, .bool true]) ∧ W = w') (h3 : ∀ W, Calls Tryz.prog 119 #[.string R] W fun r w' => r = .returned (.tuple #[.string P, .bool true]) ∧ W = w') (h4 : ∀ W, Calls Tryz.prog 74 #[.string P, .string ⟨#[101]⟩] W fun r w' => r = .returned (.tuple #[.string R2, .bool true]) ∧ W = w') (h5 : ∀ W, Calls Tryz.prog 119 #[.string R3] W fun r w' => r = .returned (.tuple #[.string Z, .bool false]) ∧ W = w') (hn : R2.toList.isEmpty = false) (h0 : 0 < R2.size) (h43 : (bt R2 0 == 43) = true) (hx : R2.extract 1 R2.size = R3) (w : World) : Calls Tryz.prog 78 #[.string S] w fun r w' => r = .returned (.bool false) ∧ w = w' := by
 have hb := get_bt R2
 have H_h1 := hid h1
 have H_h2 := hid h2
 have H_h3 := hid h3
 have H_h4 := hid h4
 have H_h5 := hid h5
 clear h1 h2 h3 h4 h5
 go_enter Tryz.func78, Tryz.ntmps78
 go_wp2_with (first
   | (go_at_call 119; (with_reducible refine (H_h1.out _).mono ?_); rintro e w9 ⟨rfl, rfl⟩)
   | (go_at_call 74; (with_reducible refine (H_h2.out _).mono ?_); rintro e w9 ⟨rfl, rfl⟩)
   | (go_at_call 119; (with_reducible refine (H_h3.out _).mono ?_); rintro e w9 ⟨rfl, rfl⟩)
   | (go_at_call 74; (with_reducible refine (H_h4.out _).mono ?_); rintro e w9 ⟨rfl, rfl⟩)
   | (go_at_call 119; (with_reducible refine (H_h5.out _).mono ?_); rintro e w9 ⟨rfl, rfl⟩)
   | fail)
 go_ret
 exact ⟨rfl, rfl⟩
theorem id_c_u0 (S A R P : ByteArray) (R2 R3 Z : ByteArray) (h1 : ∀ W, Calls Tryz.prog 119 #[.string S] W fun r w' => r = .returned (.tuple #[.string A, .bool true]) ∧ W = w') (h2 : ∀ W, Calls Tryz.prog 74 #[.string A, .string ⟨#[46]⟩] W fun r w' => r = .returned (.tuple #[.string R, .bool true]) ∧ W = w') (h3 : ∀ W, Calls Tryz.prog 119 #[.string R] W fun r w' => r = .returned (.tuple #[.string P, .bool true]) ∧ W = w') (h4 : ∀ W, Calls Tryz.prog 74 #[.string P, .string ⟨#[101]⟩] W fun r w' => r = .returned (.tuple #[.string R2, .bool true]) ∧ W = w') (h5 : ∀ W, Calls Tryz.prog 119 #[.string R3] W fun r w' => r = .returned (.tuple #[.string Z, .bool true]) ∧ W = w') (hZ : Z.toList.isEmpty = false) (hn : R2.toList.isEmpty = false) (h0 : 0 < R2.size) (h43 : (bt R2 0 == 43) = true) (hx : R2.extract 1 R2.size = R3) (w : World) : Calls Tryz.prog 78 #[.string S] w fun r w' => r = .returned (.bool false) ∧ w = w' := by
 have hb := get_bt R2
 have H_h1 := hid h1
 have H_h2 := hid h2
 have H_h3 := hid h3
 have H_h4 := hid h4
 have H_h5 := hid h5
 clear h1 h2 h3 h4 h5
 go_enter Tryz.func78, Tryz.ntmps78
 go_wp2_with (first
   | (go_at_call 119; (with_reducible refine (H_h1.out _).mono ?_); rintro e w9 ⟨rfl, rfl⟩)
   | (go_at_call 74; (with_reducible refine (H_h2.out _).mono ?_); rintro e w9 ⟨rfl, rfl⟩)
   | (go_at_call 119; (with_reducible refine (H_h3.out _).mono ?_); rintro e w9 ⟨rfl, rfl⟩)
   | (go_at_call 74; (with_reducible refine (H_h4.out _).mono ?_); rintro e w9 ⟨rfl, rfl⟩)
   | (go_at_call 119; (with_reducible refine (H_h5.out _).mono ?_); rintro e w9 ⟨rfl, rfl⟩)
   | fail)
 go_ret
 exact ⟨rfl, rfl⟩
theorem id_c_u1 (S A R P : ByteArray) (R2 R3 Z : ByteArray) (h1 : ∀ W, Calls Tryz.prog 119 #[.string S] W fun r w' => r = .returned (.tuple #[.string A, .bool true]) ∧ W = w') (h2 : ∀ W, Calls Tryz.prog 74 #[.string A, .string ⟨#[46]⟩] W fun r w' => r = .returned (.tuple #[.string R, .bool true]) ∧ W = w') (h3 : ∀ W, Calls Tryz.prog 119 #[.string R] W fun r w' => r = .returned (.tuple #[.string P, .bool true]) ∧ W = w') (h4 : ∀ W, Calls Tryz.prog 74 #[.string P, .string ⟨#[101]⟩] W fun r w' => r = .returned (.tuple #[.string R2, .bool true]) ∧ W = w') (h5 : ∀ W, Calls Tryz.prog 119 #[.string R3] W fun r w' => r = .returned (.tuple #[.string Z, .bool true]) ∧ W = w') (hZ : Z.toList.isEmpty = true) (hn : R2.toList.isEmpty = false) (h0 : 0 < R2.size) (h43 : (bt R2 0 == 43) = true) (hx : R2.extract 1 R2.size = R3) (w : World) : Calls Tryz.prog 78 #[.string S] w fun r w' => r = .returned (.bool true) ∧ w = w' := by
 have hb := get_bt R2
 have H_h1 := hid h1
 have H_h2 := hid h2
 have H_h3 := hid h3
 have H_h4 := hid h4
 have H_h5 := hid h5
 clear h1 h2 h3 h4 h5
 go_enter Tryz.func78, Tryz.ntmps78
 go_wp2_with (first
   | (go_at_call 119; (with_reducible refine (H_h1.out _).mono ?_); rintro e w9 ⟨rfl, rfl⟩)
   | (go_at_call 74; (with_reducible refine (H_h2.out _).mono ?_); rintro e w9 ⟨rfl, rfl⟩)
   | (go_at_call 119; (with_reducible refine (H_h3.out _).mono ?_); rintro e w9 ⟨rfl, rfl⟩)
   | (go_at_call 74; (with_reducible refine (H_h4.out _).mono ?_); rintro e w9 ⟨rfl, rfl⟩)
   | (go_at_call 119; (with_reducible refine (H_h5.out _).mono ?_); rintro e w9 ⟨rfl, rfl⟩)
   | fail)
 go_ret
 exact ⟨rfl, rfl⟩
theorem id_c_mf (S A R P : ByteArray) (R2 R3 Z : ByteArray) (h1 : ∀ W, Calls Tryz.prog 119 #[.string S] W fun r w' => r = .returned (.tuple #[.string A, .bool true]) ∧ W = w') (h2 : ∀ W, Calls Tryz.prog 74 #[.string A, .string ⟨#[46]⟩] W fun r w' => r = .returned (.tuple #[.string R, .bool true]) ∧ W = w') (h3 : ∀ W, Calls Tryz.prog 119 #[.string R] W fun r w' => r = .returned (.tuple #[.string P, .bool true]) ∧ W = w') (h4 : ∀ W, Calls Tryz.prog 74 #[.string P, .string ⟨#[101]⟩] W fun r w' => r = .returned (.tuple #[.string R2, .bool true]) ∧ W = w') (h5 : ∀ W, Calls Tryz.prog 119 #[.string R3] W fun r w' => r = .returned (.tuple #[.string Z, .bool false]) ∧ W = w') (hn : R2.toList.isEmpty = false) (h0 : 0 < R2.size) (h43 : (bt R2 0 == 43) = false) (h45 : (bt R2 0 == 45) = true) (hx : R2.extract 1 R2.size = R3) (w : World) : Calls Tryz.prog 78 #[.string S] w fun r w' => r = .returned (.bool false) ∧ w = w' := by
 have hb := get_bt R2
 have H_h1 := hid h1
 have H_h2 := hid h2
 have H_h3 := hid h3
 have H_h4 := hid h4
 have H_h5 := hid h5
 clear h1 h2 h3 h4 h5
 go_enter Tryz.func78, Tryz.ntmps78
 go_wp2_with (first
   | (go_at_call 119; (with_reducible refine (H_h1.out _).mono ?_); rintro e w9 ⟨rfl, rfl⟩)
   | (go_at_call 74; (with_reducible refine (H_h2.out _).mono ?_); rintro e w9 ⟨rfl, rfl⟩)
   | (go_at_call 119; (with_reducible refine (H_h3.out _).mono ?_); rintro e w9 ⟨rfl, rfl⟩)
   | (go_at_call 74; (with_reducible refine (H_h4.out _).mono ?_); rintro e w9 ⟨rfl, rfl⟩)
   | (go_at_call 119; (with_reducible refine (H_h5.out _).mono ?_); rintro e w9 ⟨rfl, rfl⟩)
   | fail)
 go_ret
 exact ⟨rfl, rfl⟩
theorem id_c_m0 (S A R P : ByteArray) (R2 R3 Z : ByteArray) (h1 : ∀ W, Calls Tryz.prog 119 #[.string S] W fun r w' => r = .returned (.tuple #[.string A, .bool true]) ∧ W = w') (h2 : ∀ W, Calls Tryz.prog 74 #[.string A, .string ⟨#[46]⟩] W fun r w' => r = .returned (.tuple #[.string R, .bool true]) ∧ W = w') (h3 : ∀ W, Calls Tryz.prog 119 #[.string R] W fun r w' => r = .returned (.tuple #[.string P, .bool true]) ∧ W = w') (h4 : ∀ W, Calls Tryz.prog 74 #[.string P, .string ⟨#[101]⟩] W fun r w' => r = .returned (.tuple #[.string R2, .bool true]) ∧ W = w') (h5 : ∀ W, Calls Tryz.prog 119 #[.string R3] W fun r w' => r = .returned (.tuple #[.string Z, .bool true]) ∧ W = w') (hZ : Z.toList.isEmpty = false) (hn : R2.toList.isEmpty = false) (h0 : 0 < R2.size) (h43 : (bt R2 0 == 43) = false) (h45 : (bt R2 0 == 45) = true) (hx : R2.extract 1 R2.size = R3) (w : World) : Calls Tryz.prog 78 #[.string S] w fun r w' => r = .returned (.bool false) ∧ w = w' := by
 have hb := get_bt R2
 have H_h1 := hid h1
 have H_h2 := hid h2
 have H_h3 := hid h3
 have H_h4 := hid h4
 have H_h5 := hid h5
 clear h1 h2 h3 h4 h5
 go_enter Tryz.func78, Tryz.ntmps78
 go_wp2_with (first
   | (go_at_call 119; (with_reducible refine (H_h1.out _).mono ?_); rintro e w9 ⟨rfl, rfl⟩)
   | (go_at_call 74; (with_reducible refine (H_h2.out _).mono ?_); rintro e w9 ⟨rfl, rfl⟩)
   | (go_at_call 119; (with_reducible refine (H_h3.out _).mono ?_); rintro e w9 ⟨rfl, rfl⟩)
   | (go_at_call 74; (with_reducible refine (H_h4.out _).mono ?_); rintro e w9 ⟨rfl, rfl⟩)
   | (go_at_call 119; (with_reducible refine (H_h5.out _).mono ?_); rintro e w9 ⟨rfl, rfl⟩)
   | fail)
 go_ret
 exact ⟨rfl, rfl⟩
theorem id_c_m1 (S A R P : ByteArray) (R2 R3 Z : ByteArray) (h1 : ∀ W, Calls Tryz.prog 119 #[.string S] W fun r w' => r = .returned (.tuple #[.string A, .bool true]) ∧ W = w') (h2 : ∀ W, Calls Tryz.prog 74 #[.string A, .string ⟨#[46]⟩] W fun r w' => r = .returned (.tuple #[.string R, .bool true]) ∧ W = w') (h3 : ∀ W, Calls Tryz.prog 119 #[.string R] W fun r w' => r = .returned (.tuple #[.string P, .bool true]) ∧ W = w') (h4 : ∀ W, Calls Tryz.prog 74 #[.string P, .string ⟨#[101]⟩] W fun r w' => r = .returned (.tuple #[.string R2, .bool true]) ∧ W = w') (h5 : ∀ W, Calls Tryz.prog 119 #[.string R3] W fun r w' => r = .returned (.tuple #[.string Z, .bool true]) ∧ W = w') (hZ : Z.toList.isEmpty = true) (hn : R2.toList.isEmpty = false) (h0 : 0 < R2.size) (h43 : (bt R2 0 == 43) = false) (h45 : (bt R2 0 == 45) = true) (hx : R2.extract 1 R2.size = R3) (w : World) : Calls Tryz.prog 78 #[.string S] w fun r w' => r = .returned (.bool true) ∧ w = w' := by
 have hb := get_bt R2
 have H_h1 := hid h1
 have H_h2 := hid h2
 have H_h3 := hid h3
 have H_h4 := hid h4
 have H_h5 := hid h5
 clear h1 h2 h3 h4 h5
 go_enter Tryz.func78, Tryz.ntmps78
 go_wp2_with (first
   | (go_at_call 119; (with_reducible refine (H_h1.out _).mono ?_); rintro e w9 ⟨rfl, rfl⟩)
   | (go_at_call 74; (with_reducible refine (H_h2.out _).mono ?_); rintro e w9 ⟨rfl, rfl⟩)
   | (go_at_call 119; (with_reducible refine (H_h3.out _).mono ?_); rintro e w9 ⟨rfl, rfl⟩)
   | (go_at_call 74; (with_reducible refine (H_h4.out _).mono ?_); rintro e w9 ⟨rfl, rfl⟩)
   | (go_at_call 119; (with_reducible refine (H_h5.out _).mono ?_); rintro e w9 ⟨rfl, rfl⟩)
   | fail)
 go_ret
 exact ⟨rfl, rfl⟩
end
section
theorem nu_p (s : ByteArray) (N o a a1 p p1 p2 z : Nat) (hN : s.size = N) (hl : N ≤ 1001) (r1 : ∀ W, Calls Tryz.prog 125 #[.string s, .int .i64 (o : Int)] W fun r w' => r = .returned (.int .i64 (o : Int)) ∧ W = w') (w : World) : Calls Tryz.prog 85 #[.string s, .int .i64 (o : Int)] w fun r w' => r = .returned (.bool false) ∧ w = w' := by
 have hb := get_bt s
 clear hl
 have H_r1 := hid r1
 clear r1
 go_enter Tryz.func85, Tryz.ntmps85
 go_wp2_with (first
   | (go_at_call 125; (with_reducible refine (H_r1.out _).mono ?_); rintro e w9 ⟨rfl, rfl⟩)
   | fail)
 go_ret
 exact ⟨rfl, rfl⟩
theorem nu_b (s : ByteArray) (N o a a1 p p1 p2 z : Nat) (hN : s.size = N) (hl : N ≤ 1001) (r1 : ∀ W, Calls Tryz.prog 125 #[.string s, .int .i64 (o : Int)] W fun r w' => r = .returned (.int .i64 (a : Int)) ∧ W = w') (hao : ¬ (a : Int) = (o : Int)) (haN : (a : Int) < (N : Int)) (h46 : (bt s a == 46) = true) (ha1 : a + 1 = a1) (haL : a < 1001) (r2 : ∀ W, Calls Tryz.prog 125 #[.string s, .int .i64 (a1 : Int)] W fun r w' => r = .returned (.int .i64 (a1 : Int)) ∧ W = w') (w : World) : Calls Tryz.prog 85 #[.string s, .int .i64 (o : Int)] w fun r w' => r = .returned (.bool false) ∧ w = w' := by
 have hb := get_bt s
 have wa1 : IntKind.i64.wrap ((a : Int) + 1) = (a1 : Int) := by rw [IntWalk.i64_in _ (by omega)]; omega
 clear ha1
 clear hl
 have H_r1 := hid r1
 have H_r2 := hid r2
 clear r1 r2
 go_enter Tryz.func85, Tryz.ntmps85
 go_wp2_with (first
   | (go_at_call 125; (with_reducible refine (H_r1.out _).mono ?_); rintro e w9 ⟨rfl, rfl⟩)
   | (go_at_call 125; (with_reducible refine (H_r2.out _).mono ?_); rintro e w9 ⟨rfl, rfl⟩)
   | fail)
 go_ret
 exact ⟨rfl, rfl⟩
theorem nu_z (s : ByteArray) (N o a a1 p p1 p2 z : Nat) (hN : s.size = N) (hl : N ≤ 1001) (r1 : ∀ W, Calls Tryz.prog 125 #[.string s, .int .i64 (o : Int)] W fun r w' => r = .returned (.int .i64 (N : Int)) ∧ W = w') (hao : ¬ (N : Int) = (o : Int)) (w : World) : Calls Tryz.prog 85 #[.string s, .int .i64 (o : Int)] w fun r w' => r = .returned (.bool true) ∧ w = w' := by
 have hb := get_bt s
 clear hl
 have H_r1 := hid r1
 clear r1
 go_enter Tryz.func85, Tryz.ntmps85
 go_wp2_with (first
   | (go_at_call 125; (with_reducible refine (H_r1.out _).mono ?_); rintro e w9 ⟨rfl, rfl⟩)
   | fail)
 go_ret
 exact ⟨rfl, rfl⟩
theorem nu_a_t2 (s : ByteArray) (N o a a1 p p1 p2 z : Nat) (hN : s.size = N) (hl : N ≤ 1001) (r1 : ∀ W, Calls Tryz.prog 125 #[.string s, .int .i64 (o : Int)] W fun r w' => r = .returned (.int .i64 (p : Int)) ∧ W = w') (hao : ¬ (p : Int) = (o : Int)) (haN : (p : Int) < (N : Int)) (h46 : (bt s p == 46) = false) (h101 : (bt s p == 101) = false) (hpe : ((p : Int) == (N : Int)) = false) (w : World) : Calls Tryz.prog 85 #[.string s, .int .i64 (o : Int)] w fun r w' => r = .returned (.bool false) ∧ w = w' := by
 have hb := get_bt s
 clear hl
 have H_r1 := hid r1
 clear r1
 go_enter Tryz.func85, Tryz.ntmps85
 go_wp2_with (first
   | (go_at_call 125; (with_reducible refine (H_r1.out _).mono ?_); rintro e w9 ⟨rfl, rfl⟩)
   | fail)
 go_ret
 exact ⟨rfl, rfl⟩
theorem nu_a_e1 (s : ByteArray) (N o a a1 p p1 p2 z : Nat) (hN : s.size = N) (hl : N ≤ 1001) (r1 : ∀ W, Calls Tryz.prog 125 #[.string s, .int .i64 (o : Int)] W fun r w' => r = .returned (.int .i64 (p : Int)) ∧ W = w') (hao : ¬ (p : Int) = (o : Int)) (haN : (p : Int) < (N : Int)) (h46 : (bt s p == 46) = false)  (h101 : (bt s p == 101) = true) (hp1 : p + 1 = p1) (hpL : p < 1001) (hpN1 : ¬ (p1 : Int) < (N : Int)) (r4 : ∀ W, Calls Tryz.prog 125 #[.string s, .int .i64 (p1 : Int)] W fun r w' => r = .returned (.int .i64 (p1 : Int)) ∧ W = w') (w : World) : Calls Tryz.prog 85 #[.string s, .int .i64 (o : Int)] w fun r w' => r = .returned (.bool false) ∧ w = w' := by
 have hb := get_bt s
 have wp1 : IntKind.i64.wrap ((p : Int) + 1) = (p1 : Int) := by rw [IntWalk.i64_in _ (by omega)]; omega
 clear hp1
 clear hl
 have H_r1 := hid r1
 have H_r4 := hid r4
 clear r1 r4
 go_enter Tryz.func85, Tryz.ntmps85
 go_wp2_with (first
   | (go_at_call 125; (with_reducible refine (H_r1.out _).mono ?_); rintro e w9 ⟨rfl, rfl⟩)
   | (go_at_call 125; (with_reducible refine (H_r4.out _).mono ?_); rintro e w9 ⟨rfl, rfl⟩)
   | fail)
 go_ret
 exact ⟨rfl, rfl⟩
theorem nu_a_nf (s : ByteArray) (N o a a1 p p1 p2 z : Nat) (hN : s.size = N) (hl : N ≤ 1001) (r1 : ∀ W, Calls Tryz.prog 125 #[.string s, .int .i64 (o : Int)] W fun r w' => r = .returned (.int .i64 (p : Int)) ∧ W = w') (hao : ¬ (p : Int) = (o : Int)) (haN : (p : Int) < (N : Int)) (h46 : (bt s p == 46) = false)  (h101 : (bt s p == 101) = true) (hp1 : p + 1 = p1) (hpL : p < 1001) (hpN1 : (p1 : Int) < (N : Int)) (h43 : (bt s p1 == 43) = false) (h45 : (bt s p1 == 45) = false) (r4 : ∀ W, Calls Tryz.prog 125 #[.string s, .int .i64 (p1 : Int)] W fun r w' => r = .returned (.int .i64 (p1 : Int)) ∧ W = w') (w : World) : Calls Tryz.prog 85 #[.string s, .int .i64 (o : Int)] w fun r w' => r = .returned (.bool false) ∧ w = w' := by
 have hb := get_bt s
 have wp1 : IntKind.i64.wrap ((p : Int) + 1) = (p1 : Int) := by rw [IntWalk.i64_in _ (by omega)]; omega
 clear hp1
 clear hl
 have H_r1 := hid r1
 have H_r4 := hid r4
 clear r1 r4
 go_enter Tryz.func85, Tryz.ntmps85
 go_wp2_with (first
   | (go_at_call 125; (with_reducible refine (H_r1.out _).mono ?_); rintro e w9 ⟨rfl, rfl⟩)
   | (go_at_call 125; (with_reducible refine (H_r4.out _).mono ?_); rintro e w9 ⟨rfl, rfl⟩)
   | fail)
 go_ret
 exact ⟨rfl, rfl⟩
theorem nu_a_n0 (s : ByteArray) (N o a a1 p p1 p2 z : Nat) (hN : s.size = N) (hl : N ≤ 1001) (r1 : ∀ W, Calls Tryz.prog 125 #[.string s, .int .i64 (o : Int)] W fun r w' => r = .returned (.int .i64 (p : Int)) ∧ W = w') (hao : ¬ (p : Int) = (o : Int)) (haN : (p : Int) < (N : Int)) (h46 : (bt s p == 46) = false)  (h101 : (bt s p == 101) = true) (hp1 : p + 1 = p1) (hpL : p < 1001) (hpN1 : (p1 : Int) < (N : Int)) (h43 : (bt s p1 == 43) = false) (h45 : (bt s p1 == 45) = false) (r4 : ∀ W, Calls Tryz.prog 125 #[.string s, .int .i64 (p1 : Int)] W fun r w' => r = .returned (.int .i64 (z : Int)) ∧ W = w') (hz : ¬ (z : Int) = (p1 : Int)) (hzN : ((z : Int) == (N : Int)) = false) (w : World) : Calls Tryz.prog 85 #[.string s, .int .i64 (o : Int)] w fun r w' => r = .returned (.bool false) ∧ w = w' := by
 have hb := get_bt s
 have wp1 : IntKind.i64.wrap ((p : Int) + 1) = (p1 : Int) := by rw [IntWalk.i64_in _ (by omega)]; omega
 clear hp1
 clear hl
 have H_r1 := hid r1
 have H_r4 := hid r4
 clear r1 r4
 go_enter Tryz.func85, Tryz.ntmps85
 go_wp2_with (first
   | (go_at_call 125; (with_reducible refine (H_r1.out _).mono ?_); rintro e w9 ⟨rfl, rfl⟩)
   | (go_at_call 125; (with_reducible refine (H_r4.out _).mono ?_); rintro e w9 ⟨rfl, rfl⟩)
   | fail)
 go_ret
 exact ⟨rfl, rfl⟩
theorem nu_a_n1 (s : ByteArray) (N o a a1 p p1 p2 z : Nat) (hN : s.size = N) (hl : N ≤ 1001) (r1 : ∀ W, Calls Tryz.prog 125 #[.string s, .int .i64 (o : Int)] W fun r w' => r = .returned (.int .i64 (p : Int)) ∧ W = w') (hao : ¬ (p : Int) = (o : Int)) (haN : (p : Int) < (N : Int)) (h46 : (bt s p == 46) = false)  (h101 : (bt s p == 101) = true) (hp1 : p + 1 = p1) (hpL : p < 1001) (hpN1 : (p1 : Int) < (N : Int)) (h43 : (bt s p1 == 43) = false) (h45 : (bt s p1 == 45) = false) (r4 : ∀ W, Calls Tryz.prog 125 #[.string s, .int .i64 (p1 : Int)] W fun r w' => r = .returned (.int .i64 (N : Int)) ∧ W = w') (hz : ¬ (N : Int) = (p1 : Int)) (w : World) : Calls Tryz.prog 85 #[.string s, .int .i64 (o : Int)] w fun r w' => r = .returned (.bool true) ∧ w = w' := by
 have hb := get_bt s
 have wp1 : IntKind.i64.wrap ((p : Int) + 1) = (p1 : Int) := by rw [IntWalk.i64_in _ (by omega)]; omega
 clear hp1
 clear hl
 have H_r1 := hid r1
 have H_r4 := hid r4
 clear r1 r4
 go_enter Tryz.func85, Tryz.ntmps85
 go_wp2_with (first
   | (go_at_call 125; (with_reducible refine (H_r1.out _).mono ?_); rintro e w9 ⟨rfl, rfl⟩)
   | (go_at_call 125; (with_reducible refine (H_r4.out _).mono ?_); rintro e w9 ⟨rfl, rfl⟩)
   | fail)
 go_ret
 exact ⟨rfl, rfl⟩
theorem nu_a_uf (s : ByteArray) (N o a a1 p p1 p2 z : Nat) (hN : s.size = N) (hl : N ≤ 1001) (r1 : ∀ W, Calls Tryz.prog 125 #[.string s, .int .i64 (o : Int)] W fun r w' => r = .returned (.int .i64 (p : Int)) ∧ W = w') (hao : ¬ (p : Int) = (o : Int)) (haN : (p : Int) < (N : Int)) (h46 : (bt s p == 46) = false)  (h101 : (bt s p == 101) = true) (hp1 : p + 1 = p1) (hpL : p < 1001) (hpN1 : (p1 : Int) < (N : Int)) (h43 : (bt s p1 == 43) = true) (hp2 : p1 + 1 = p2) (hp1L : p1 < 1002) (r4 : ∀ W, Calls Tryz.prog 125 #[.string s, .int .i64 (p2 : Int)] W fun r w' => r = .returned (.int .i64 (p2 : Int)) ∧ W = w') (w : World) : Calls Tryz.prog 85 #[.string s, .int .i64 (o : Int)] w fun r w' => r = .returned (.bool false) ∧ w = w' := by
 have hb := get_bt s
 have wp1 : IntKind.i64.wrap ((p : Int) + 1) = (p1 : Int) := by rw [IntWalk.i64_in _ (by omega)]; omega
 have wp2 : IntKind.i64.wrap ((p1 : Int) + 1) = (p2 : Int) := by rw [IntWalk.i64_in _ (by omega)]; omega
 clear hp1
 clear hp2
 clear hl
 have H_r1 := hid r1
 have H_r4 := hid r4
 clear r1 r4
 go_enter Tryz.func85, Tryz.ntmps85
 go_wp2_with (first
   | (go_at_call 125; (with_reducible refine (H_r1.out _).mono ?_); rintro e w9 ⟨rfl, rfl⟩)
   | (go_at_call 125; (with_reducible refine (H_r4.out _).mono ?_); rintro e w9 ⟨rfl, rfl⟩)
   | fail)
 go_ret
 exact ⟨rfl, rfl⟩
theorem nu_a_u0 (s : ByteArray) (N o a a1 p p1 p2 z : Nat) (hN : s.size = N) (hl : N ≤ 1001) (r1 : ∀ W, Calls Tryz.prog 125 #[.string s, .int .i64 (o : Int)] W fun r w' => r = .returned (.int .i64 (p : Int)) ∧ W = w') (hao : ¬ (p : Int) = (o : Int)) (haN : (p : Int) < (N : Int)) (h46 : (bt s p == 46) = false)  (h101 : (bt s p == 101) = true) (hp1 : p + 1 = p1) (hpL : p < 1001) (hpN1 : (p1 : Int) < (N : Int)) (h43 : (bt s p1 == 43) = true) (hp2 : p1 + 1 = p2) (hp1L : p1 < 1002) (r4 : ∀ W, Calls Tryz.prog 125 #[.string s, .int .i64 (p2 : Int)] W fun r w' => r = .returned (.int .i64 (z : Int)) ∧ W = w') (hz : ¬ (z : Int) = (p2 : Int)) (hzN : ((z : Int) == (N : Int)) = false) (w : World) : Calls Tryz.prog 85 #[.string s, .int .i64 (o : Int)] w fun r w' => r = .returned (.bool false) ∧ w = w' := by
 have hb := get_bt s
 have wp1 : IntKind.i64.wrap ((p : Int) + 1) = (p1 : Int) := by rw [IntWalk.i64_in _ (by omega)]; omega
 have wp2 : IntKind.i64.wrap ((p1 : Int) + 1) = (p2 : Int) := by rw [IntWalk.i64_in _ (by omega)]; omega
 clear hp1
 clear hp2
 clear hl
 have H_r1 := hid r1
 have H_r4 := hid r4
 clear r1 r4
 go_enter Tryz.func85, Tryz.ntmps85
 go_wp2_with (first
   | (go_at_call 125; (with_reducible refine (H_r1.out _).mono ?_); rintro e w9 ⟨rfl, rfl⟩)
   | (go_at_call 125; (with_reducible refine (H_r4.out _).mono ?_); rintro e w9 ⟨rfl, rfl⟩)
   | fail)
 go_ret
 exact ⟨rfl, rfl⟩
theorem nu_a_u1 (s : ByteArray) (N o a a1 p p1 p2 z : Nat) (hN : s.size = N) (hl : N ≤ 1001) (r1 : ∀ W, Calls Tryz.prog 125 #[.string s, .int .i64 (o : Int)] W fun r w' => r = .returned (.int .i64 (p : Int)) ∧ W = w') (hao : ¬ (p : Int) = (o : Int)) (haN : (p : Int) < (N : Int)) (h46 : (bt s p == 46) = false)  (h101 : (bt s p == 101) = true) (hp1 : p + 1 = p1) (hpL : p < 1001) (hpN1 : (p1 : Int) < (N : Int)) (h43 : (bt s p1 == 43) = true) (hp2 : p1 + 1 = p2) (hp1L : p1 < 1002) (r4 : ∀ W, Calls Tryz.prog 125 #[.string s, .int .i64 (p2 : Int)] W fun r w' => r = .returned (.int .i64 (N : Int)) ∧ W = w') (hz : ¬ (N : Int) = (p2 : Int)) (w : World) : Calls Tryz.prog 85 #[.string s, .int .i64 (o : Int)] w fun r w' => r = .returned (.bool true) ∧ w = w' := by
 have hb := get_bt s
 have wp1 : IntKind.i64.wrap ((p : Int) + 1) = (p1 : Int) := by rw [IntWalk.i64_in _ (by omega)]; omega
 have wp2 : IntKind.i64.wrap ((p1 : Int) + 1) = (p2 : Int) := by rw [IntWalk.i64_in _ (by omega)]; omega
 clear hp1
 clear hp2
 clear hl
 have H_r1 := hid r1
 have H_r4 := hid r4
 clear r1 r4
 go_enter Tryz.func85, Tryz.ntmps85
 go_wp2_with (first
   | (go_at_call 125; (with_reducible refine (H_r1.out _).mono ?_); rintro e w9 ⟨rfl, rfl⟩)
   | (go_at_call 125; (with_reducible refine (H_r4.out _).mono ?_); rintro e w9 ⟨rfl, rfl⟩)
   | fail)
 go_ret
 exact ⟨rfl, rfl⟩
theorem nu_a_mf (s : ByteArray) (N o a a1 p p1 p2 z : Nat) (hN : s.size = N) (hl : N ≤ 1001) (r1 : ∀ W, Calls Tryz.prog 125 #[.string s, .int .i64 (o : Int)] W fun r w' => r = .returned (.int .i64 (p : Int)) ∧ W = w') (hao : ¬ (p : Int) = (o : Int)) (haN : (p : Int) < (N : Int)) (h46 : (bt s p == 46) = false)  (h101 : (bt s p == 101) = true) (hp1 : p + 1 = p1) (hpL : p < 1001) (hpN1 : (p1 : Int) < (N : Int)) (h43 : (bt s p1 == 43) = false) (h45 : (bt s p1 == 45) = true) (hp2 : p1 + 1 = p2) (hp1L : p1 < 1002) (r4 : ∀ W, Calls Tryz.prog 125 #[.string s, .int .i64 (p2 : Int)] W fun r w' => r = .returned (.int .i64 (p2 : Int)) ∧ W = w') (w : World) : Calls Tryz.prog 85 #[.string s, .int .i64 (o : Int)] w fun r w' => r = .returned (.bool false) ∧ w = w' := by
 have hb := get_bt s
 have wp1 : IntKind.i64.wrap ((p : Int) + 1) = (p1 : Int) := by rw [IntWalk.i64_in _ (by omega)]; omega
 have wp2 : IntKind.i64.wrap ((p1 : Int) + 1) = (p2 : Int) := by rw [IntWalk.i64_in _ (by omega)]; omega
 clear hp1
 clear hp2
 clear hl
 have H_r1 := hid r1
 have H_r4 := hid r4
 clear r1 r4
 go_enter Tryz.func85, Tryz.ntmps85
 go_wp2_with (first
   | (go_at_call 125; (with_reducible refine (H_r1.out _).mono ?_); rintro e w9 ⟨rfl, rfl⟩)
   | (go_at_call 125; (with_reducible refine (H_r4.out _).mono ?_); rintro e w9 ⟨rfl, rfl⟩)
   | fail)
 go_ret
 exact ⟨rfl, rfl⟩
theorem nu_a_m0 (s : ByteArray) (N o a a1 p p1 p2 z : Nat) (hN : s.size = N) (hl : N ≤ 1001) (r1 : ∀ W, Calls Tryz.prog 125 #[.string s, .int .i64 (o : Int)] W fun r w' => r = .returned (.int .i64 (p : Int)) ∧ W = w') (hao : ¬ (p : Int) = (o : Int)) (haN : (p : Int) < (N : Int)) (h46 : (bt s p == 46) = false)  (h101 : (bt s p == 101) = true) (hp1 : p + 1 = p1) (hpL : p < 1001) (hpN1 : (p1 : Int) < (N : Int)) (h43 : (bt s p1 == 43) = false) (h45 : (bt s p1 == 45) = true) (hp2 : p1 + 1 = p2) (hp1L : p1 < 1002) (r4 : ∀ W, Calls Tryz.prog 125 #[.string s, .int .i64 (p2 : Int)] W fun r w' => r = .returned (.int .i64 (z : Int)) ∧ W = w') (hz : ¬ (z : Int) = (p2 : Int)) (hzN : ((z : Int) == (N : Int)) = false) (w : World) : Calls Tryz.prog 85 #[.string s, .int .i64 (o : Int)] w fun r w' => r = .returned (.bool false) ∧ w = w' := by
 have hb := get_bt s
 have wp1 : IntKind.i64.wrap ((p : Int) + 1) = (p1 : Int) := by rw [IntWalk.i64_in _ (by omega)]; omega
 have wp2 : IntKind.i64.wrap ((p1 : Int) + 1) = (p2 : Int) := by rw [IntWalk.i64_in _ (by omega)]; omega
 clear hp1
 clear hp2
 clear hl
 have H_r1 := hid r1
 have H_r4 := hid r4
 clear r1 r4
 go_enter Tryz.func85, Tryz.ntmps85
 go_wp2_with (first
   | (go_at_call 125; (with_reducible refine (H_r1.out _).mono ?_); rintro e w9 ⟨rfl, rfl⟩)
   | (go_at_call 125; (with_reducible refine (H_r4.out _).mono ?_); rintro e w9 ⟨rfl, rfl⟩)
   | fail)
 go_ret
 exact ⟨rfl, rfl⟩
theorem nu_a_m1 (s : ByteArray) (N o a a1 p p1 p2 z : Nat) (hN : s.size = N) (hl : N ≤ 1001) (r1 : ∀ W, Calls Tryz.prog 125 #[.string s, .int .i64 (o : Int)] W fun r w' => r = .returned (.int .i64 (p : Int)) ∧ W = w') (hao : ¬ (p : Int) = (o : Int)) (haN : (p : Int) < (N : Int)) (h46 : (bt s p == 46) = false)  (h101 : (bt s p == 101) = true) (hp1 : p + 1 = p1) (hpL : p < 1001) (hpN1 : (p1 : Int) < (N : Int)) (h43 : (bt s p1 == 43) = false) (h45 : (bt s p1 == 45) = true) (hp2 : p1 + 1 = p2) (hp1L : p1 < 1002) (r4 : ∀ W, Calls Tryz.prog 125 #[.string s, .int .i64 (p2 : Int)] W fun r w' => r = .returned (.int .i64 (N : Int)) ∧ W = w') (hz : ¬ (N : Int) = (p2 : Int)) (w : World) : Calls Tryz.prog 85 #[.string s, .int .i64 (o : Int)] w fun r w' => r = .returned (.bool true) ∧ w = w' := by
 have hb := get_bt s
 have wp1 : IntKind.i64.wrap ((p : Int) + 1) = (p1 : Int) := by rw [IntWalk.i64_in _ (by omega)]; omega
 have wp2 : IntKind.i64.wrap ((p1 : Int) + 1) = (p2 : Int) := by rw [IntWalk.i64_in _ (by omega)]; omega
 clear hp1
 clear hp2
 clear hl
 have H_r1 := hid r1
 have H_r4 := hid r4
 clear r1 r4
 go_enter Tryz.func85, Tryz.ntmps85
 go_wp2_with (first
   | (go_at_call 125; (with_reducible refine (H_r1.out _).mono ?_); rintro e w9 ⟨rfl, rfl⟩)
   | (go_at_call 125; (with_reducible refine (H_r4.out _).mono ?_); rintro e w9 ⟨rfl, rfl⟩)
   | fail)
 go_ret
 exact ⟨rfl, rfl⟩
theorem nu_c_t2 (s : ByteArray) (N o a a1 p p1 p2 z : Nat) (hN : s.size = N) (hl : N ≤ 1001) (r1 : ∀ W, Calls Tryz.prog 125 #[.string s, .int .i64 (o : Int)] W fun r w' => r = .returned (.int .i64 (a : Int)) ∧ W = w') (hao : ¬ (a : Int) = (o : Int)) (haN : (a : Int) < (N : Int)) (h46 : (bt s a == 46) = true) (ha1 : a + 1 = a1) (haL : a < 1001) (r2 : ∀ W, Calls Tryz.prog 125 #[.string s, .int .i64 (a1 : Int)] W fun r w' => r = .returned (.int .i64 (p : Int)) ∧ W = w') (hpa : ¬ (p : Int) = (a1 : Int)) (hpN : (p : Int) < (N : Int)) (h101 : (bt s p == 101) = false) (hpe : ((p : Int) == (N : Int)) = false) (w : World) : Calls Tryz.prog 85 #[.string s, .int .i64 (o : Int)] w fun r w' => r = .returned (.bool false) ∧ w = w' := by
 have hb := get_bt s
 have wa1 : IntKind.i64.wrap ((a : Int) + 1) = (a1 : Int) := by rw [IntWalk.i64_in _ (by omega)]; omega
 clear ha1
 clear hl
 have H_r1 := hid r1
 have H_r2 := hid r2
 clear r1 r2
 go_enter Tryz.func85, Tryz.ntmps85
 go_wp2_with (first
   | (go_at_call 125; (with_reducible refine (H_r1.out _).mono ?_); rintro e w9 ⟨rfl, rfl⟩)
   | (go_at_call 125; (with_reducible refine (H_r2.out _).mono ?_); rintro e w9 ⟨rfl, rfl⟩)
   | fail)
 go_ret
 exact ⟨rfl, rfl⟩
theorem nu_c_e1 (s : ByteArray) (N o a a1 p p1 p2 z : Nat) (hN : s.size = N) (hl : N ≤ 1001) (r1 : ∀ W, Calls Tryz.prog 125 #[.string s, .int .i64 (o : Int)] W fun r w' => r = .returned (.int .i64 (a : Int)) ∧ W = w') (hao : ¬ (a : Int) = (o : Int)) (haN : (a : Int) < (N : Int)) (h46 : (bt s a == 46) = true) (ha1 : a + 1 = a1) (haL : a < 1001) (r2 : ∀ W, Calls Tryz.prog 125 #[.string s, .int .i64 (a1 : Int)] W fun r w' => r = .returned (.int .i64 (p : Int)) ∧ W = w') (hpa : ¬ (p : Int) = (a1 : Int)) (hpN : (p : Int) < (N : Int)) (h101 : (bt s p == 101) = true) (hp1 : p + 1 = p1) (hpL : p < 1001) (hpN1 : ¬ (p1 : Int) < (N : Int)) (r4 : ∀ W, Calls Tryz.prog 125 #[.string s, .int .i64 (p1 : Int)] W fun r w' => r = .returned (.int .i64 (p1 : Int)) ∧ W = w') (w : World) : Calls Tryz.prog 85 #[.string s, .int .i64 (o : Int)] w fun r w' => r = .returned (.bool false) ∧ w = w' := by
 have hb := get_bt s
 have wa1 : IntKind.i64.wrap ((a : Int) + 1) = (a1 : Int) := by rw [IntWalk.i64_in _ (by omega)]; omega
 have wp1 : IntKind.i64.wrap ((p : Int) + 1) = (p1 : Int) := by rw [IntWalk.i64_in _ (by omega)]; omega
 clear ha1
 clear hp1
 clear hl
 have H_r1 := hid r1
 have H_r2 := hid r2
 have H_r4 := hid r4
 clear r1 r2 r4
 go_enter Tryz.func85, Tryz.ntmps85
 go_wp2_with (first
   | (go_at_call 125; (with_reducible refine (H_r1.out _).mono ?_); rintro e w9 ⟨rfl, rfl⟩)
   | (go_at_call 125; (with_reducible refine (H_r2.out _).mono ?_); rintro e w9 ⟨rfl, rfl⟩)
   | (go_at_call 125; (with_reducible refine (H_r4.out _).mono ?_); rintro e w9 ⟨rfl, rfl⟩)
   | fail)
 go_ret
 exact ⟨rfl, rfl⟩
theorem nu_c_nf (s : ByteArray) (N o a a1 p p1 p2 z : Nat) (hN : s.size = N) (hl : N ≤ 1001) (r1 : ∀ W, Calls Tryz.prog 125 #[.string s, .int .i64 (o : Int)] W fun r w' => r = .returned (.int .i64 (a : Int)) ∧ W = w') (hao : ¬ (a : Int) = (o : Int)) (haN : (a : Int) < (N : Int)) (h46 : (bt s a == 46) = true) (ha1 : a + 1 = a1) (haL : a < 1001) (r2 : ∀ W, Calls Tryz.prog 125 #[.string s, .int .i64 (a1 : Int)] W fun r w' => r = .returned (.int .i64 (p : Int)) ∧ W = w') (hpa : ¬ (p : Int) = (a1 : Int)) (hpN : (p : Int) < (N : Int)) (h101 : (bt s p == 101) = true) (hp1 : p + 1 = p1) (hpL : p < 1001) (hpN1 : (p1 : Int) < (N : Int)) (h43 : (bt s p1 == 43) = false) (h45 : (bt s p1 == 45) = false) (r4 : ∀ W, Calls Tryz.prog 125 #[.string s, .int .i64 (p1 : Int)] W fun r w' => r = .returned (.int .i64 (p1 : Int)) ∧ W = w') (w : World) : Calls Tryz.prog 85 #[.string s, .int .i64 (o : Int)] w fun r w' => r = .returned (.bool false) ∧ w = w' := by
 have hb := get_bt s
 have wa1 : IntKind.i64.wrap ((a : Int) + 1) = (a1 : Int) := by rw [IntWalk.i64_in _ (by omega)]; omega
 have wp1 : IntKind.i64.wrap ((p : Int) + 1) = (p1 : Int) := by rw [IntWalk.i64_in _ (by omega)]; omega
 clear ha1
 clear hp1
 clear hl
 have H_r1 := hid r1
 have H_r2 := hid r2
 have H_r4 := hid r4
 clear r1 r2 r4
 go_enter Tryz.func85, Tryz.ntmps85
 go_wp2_with (first
   | (go_at_call 125; (with_reducible refine (H_r1.out _).mono ?_); rintro e w9 ⟨rfl, rfl⟩)
   | (go_at_call 125; (with_reducible refine (H_r2.out _).mono ?_); rintro e w9 ⟨rfl, rfl⟩)
   | (go_at_call 125; (with_reducible refine (H_r4.out _).mono ?_); rintro e w9 ⟨rfl, rfl⟩)
   | fail)
 go_ret
 exact ⟨rfl, rfl⟩
theorem nu_c_n0 (s : ByteArray) (N o a a1 p p1 p2 z : Nat) (hN : s.size = N) (hl : N ≤ 1001) (r1 : ∀ W, Calls Tryz.prog 125 #[.string s, .int .i64 (o : Int)] W fun r w' => r = .returned (.int .i64 (a : Int)) ∧ W = w') (hao : ¬ (a : Int) = (o : Int)) (haN : (a : Int) < (N : Int)) (h46 : (bt s a == 46) = true) (ha1 : a + 1 = a1) (haL : a < 1001) (r2 : ∀ W, Calls Tryz.prog 125 #[.string s, .int .i64 (a1 : Int)] W fun r w' => r = .returned (.int .i64 (p : Int)) ∧ W = w') (hpa : ¬ (p : Int) = (a1 : Int)) (hpN : (p : Int) < (N : Int)) (h101 : (bt s p == 101) = true) (hp1 : p + 1 = p1) (hpL : p < 1001) (hpN1 : (p1 : Int) < (N : Int)) (h43 : (bt s p1 == 43) = false) (h45 : (bt s p1 == 45) = false) (r4 : ∀ W, Calls Tryz.prog 125 #[.string s, .int .i64 (p1 : Int)] W fun r w' => r = .returned (.int .i64 (z : Int)) ∧ W = w') (hz : ¬ (z : Int) = (p1 : Int)) (hzN : ((z : Int) == (N : Int)) = false) (w : World) : Calls Tryz.prog 85 #[.string s, .int .i64 (o : Int)] w fun r w' => r = .returned (.bool false) ∧ w = w' := by
 have hb := get_bt s
 have wa1 : IntKind.i64.wrap ((a : Int) + 1) = (a1 : Int) := by rw [IntWalk.i64_in _ (by omega)]; omega
 have wp1 : IntKind.i64.wrap ((p : Int) + 1) = (p1 : Int) := by rw [IntWalk.i64_in _ (by omega)]; omega
 clear ha1
 clear hp1
 clear hl
 have H_r1 := hid r1
 have H_r2 := hid r2
 have H_r4 := hid r4
 clear r1 r2 r4
 go_enter Tryz.func85, Tryz.ntmps85
 go_wp2_with (first
   | (go_at_call 125; (with_reducible refine (H_r1.out _).mono ?_); rintro e w9 ⟨rfl, rfl⟩)
   | (go_at_call 125; (with_reducible refine (H_r2.out _).mono ?_); rintro e w9 ⟨rfl, rfl⟩)
   | (go_at_call 125; (with_reducible refine (H_r4.out _).mono ?_); rintro e w9 ⟨rfl, rfl⟩)
   | fail)
 go_ret
 exact ⟨rfl, rfl⟩
theorem nu_c_n1 (s : ByteArray) (N o a a1 p p1 p2 z : Nat) (hN : s.size = N) (hl : N ≤ 1001) (r1 : ∀ W, Calls Tryz.prog 125 #[.string s, .int .i64 (o : Int)] W fun r w' => r = .returned (.int .i64 (a : Int)) ∧ W = w') (hao : ¬ (a : Int) = (o : Int)) (haN : (a : Int) < (N : Int)) (h46 : (bt s a == 46) = true) (ha1 : a + 1 = a1) (haL : a < 1001) (r2 : ∀ W, Calls Tryz.prog 125 #[.string s, .int .i64 (a1 : Int)] W fun r w' => r = .returned (.int .i64 (p : Int)) ∧ W = w') (hpa : ¬ (p : Int) = (a1 : Int)) (hpN : (p : Int) < (N : Int)) (h101 : (bt s p == 101) = true) (hp1 : p + 1 = p1) (hpL : p < 1001) (hpN1 : (p1 : Int) < (N : Int)) (h43 : (bt s p1 == 43) = false) (h45 : (bt s p1 == 45) = false) (r4 : ∀ W, Calls Tryz.prog 125 #[.string s, .int .i64 (p1 : Int)] W fun r w' => r = .returned (.int .i64 (N : Int)) ∧ W = w') (hz : ¬ (N : Int) = (p1 : Int)) (w : World) : Calls Tryz.prog 85 #[.string s, .int .i64 (o : Int)] w fun r w' => r = .returned (.bool true) ∧ w = w' := by
 have hb := get_bt s
 have wa1 : IntKind.i64.wrap ((a : Int) + 1) = (a1 : Int) := by rw [IntWalk.i64_in _ (by omega)]; omega
 have wp1 : IntKind.i64.wrap ((p : Int) + 1) = (p1 : Int) := by rw [IntWalk.i64_in _ (by omega)]; omega
 clear ha1
 clear hp1
 clear hl
 have H_r1 := hid r1
 have H_r2 := hid r2
 have H_r4 := hid r4
 clear r1 r2 r4
 go_enter Tryz.func85, Tryz.ntmps85
 go_wp2_with (first
   | (go_at_call 125; (with_reducible refine (H_r1.out _).mono ?_); rintro e w9 ⟨rfl, rfl⟩)
   | (go_at_call 125; (with_reducible refine (H_r2.out _).mono ?_); rintro e w9 ⟨rfl, rfl⟩)
   | (go_at_call 125; (with_reducible refine (H_r4.out _).mono ?_); rintro e w9 ⟨rfl, rfl⟩)
   | fail)
 go_ret
 exact ⟨rfl, rfl⟩
theorem nu_c_uf (s : ByteArray) (N o a a1 p p1 p2 z : Nat) (hN : s.size = N) (hl : N ≤ 1001) (r1 : ∀ W, Calls Tryz.prog 125 #[.string s, .int .i64 (o : Int)] W fun r w' => r = .returned (.int .i64 (a : Int)) ∧ W = w') (hao : ¬ (a : Int) = (o : Int)) (haN : (a : Int) < (N : Int)) (h46 : (bt s a == 46) = true) (ha1 : a + 1 = a1) (haL : a < 1001) (r2 : ∀ W, Calls Tryz.prog 125 #[.string s, .int .i64 (a1 : Int)] W fun r w' => r = .returned (.int .i64 (p : Int)) ∧ W = w') (hpa : ¬ (p : Int) = (a1 : Int)) (hpN : (p : Int) < (N : Int)) (h101 : (bt s p == 101) = true) (hp1 : p + 1 = p1) (hpL : p < 1001) (hpN1 : (p1 : Int) < (N : Int)) (h43 : (bt s p1 == 43) = true) (hp2 : p1 + 1 = p2) (hp1L : p1 < 1002) (r4 : ∀ W, Calls Tryz.prog 125 #[.string s, .int .i64 (p2 : Int)] W fun r w' => r = .returned (.int .i64 (p2 : Int)) ∧ W = w') (w : World) : Calls Tryz.prog 85 #[.string s, .int .i64 (o : Int)] w fun r w' => r = .returned (.bool false) ∧ w = w' := by
 have hb := get_bt s
 have wa1 : IntKind.i64.wrap ((a : Int) + 1) = (a1 : Int) := by rw [IntWalk.i64_in _ (by omega)]; omega
 have wp1 : IntKind.i64.wrap ((p : Int) + 1) = (p1 : Int) := by rw [IntWalk.i64_in _ (by omega)]; omega
 have wp2 : IntKind.i64.wrap ((p1 : Int) + 1) = (p2 : Int) := by rw [IntWalk.i64_in _ (by omega)]; omega
 clear ha1
 clear hp1
 clear hp2
 clear hl
 have H_r1 := hid r1
 have H_r2 := hid r2
 have H_r4 := hid r4
 clear r1 r2 r4
 go_enter Tryz.func85, Tryz.ntmps85
 go_wp2_with (first
   | (go_at_call 125; (with_reducible refine (H_r1.out _).mono ?_); rintro e w9 ⟨rfl, rfl⟩)
   | (go_at_call 125; (with_reducible refine (H_r2.out _).mono ?_); rintro e w9 ⟨rfl, rfl⟩)
   | (go_at_call 125; (with_reducible refine (H_r4.out _).mono ?_); rintro e w9 ⟨rfl, rfl⟩)
   | fail)
 go_ret
 exact ⟨rfl, rfl⟩
theorem nu_c_u0 (s : ByteArray) (N o a a1 p p1 p2 z : Nat) (hN : s.size = N) (hl : N ≤ 1001) (r1 : ∀ W, Calls Tryz.prog 125 #[.string s, .int .i64 (o : Int)] W fun r w' => r = .returned (.int .i64 (a : Int)) ∧ W = w') (hao : ¬ (a : Int) = (o : Int)) (haN : (a : Int) < (N : Int)) (h46 : (bt s a == 46) = true) (ha1 : a + 1 = a1) (haL : a < 1001) (r2 : ∀ W, Calls Tryz.prog 125 #[.string s, .int .i64 (a1 : Int)] W fun r w' => r = .returned (.int .i64 (p : Int)) ∧ W = w') (hpa : ¬ (p : Int) = (a1 : Int)) (hpN : (p : Int) < (N : Int)) (h101 : (bt s p == 101) = true) (hp1 : p + 1 = p1) (hpL : p < 1001) (hpN1 : (p1 : Int) < (N : Int)) (h43 : (bt s p1 == 43) = true) (hp2 : p1 + 1 = p2) (hp1L : p1 < 1002) (r4 : ∀ W, Calls Tryz.prog 125 #[.string s, .int .i64 (p2 : Int)] W fun r w' => r = .returned (.int .i64 (z : Int)) ∧ W = w') (hz : ¬ (z : Int) = (p2 : Int)) (hzN : ((z : Int) == (N : Int)) = false) (w : World) : Calls Tryz.prog 85 #[.string s, .int .i64 (o : Int)] w fun r w' => r = .returned (.bool false) ∧ w = w' := by
 have hb := get_bt s
 have wa1 : IntKind.i64.wrap ((a : Int) + 1) = (a1 : Int) := by rw [IntWalk.i64_in _ (by omega)]; omega
 have wp1 : IntKind.i64.wrap ((p : Int) + 1) = (p1 : Int) := by rw [IntWalk.i64_in _ (by omega)]; omega
 have wp2 : IntKind.i64.wrap ((p1 : Int) + 1) = (p2 : Int) := by rw [IntWalk.i64_in _ (by omega)]; omega
 clear ha1
 clear hp1
 clear hp2
 clear hl
 have H_r1 := hid r1
 have H_r2 := hid r2
 have H_r4 := hid r4
 clear r1 r2 r4
 go_enter Tryz.func85, Tryz.ntmps85
 go_wp2_with (first
   | (go_at_call 125; (with_reducible refine (H_r1.out _).mono ?_); rintro e w9 ⟨rfl, rfl⟩)
   | (go_at_call 125; (with_reducible refine (H_r2.out _).mono ?_); rintro e w9 ⟨rfl, rfl⟩)
   | (go_at_call 125; (with_reducible refine (H_r4.out _).mono ?_); rintro e w9 ⟨rfl, rfl⟩)
   | fail)
 go_ret
 exact ⟨rfl, rfl⟩
theorem nu_c_u1 (s : ByteArray) (N o a a1 p p1 p2 z : Nat) (hN : s.size = N) (hl : N ≤ 1001) (r1 : ∀ W, Calls Tryz.prog 125 #[.string s, .int .i64 (o : Int)] W fun r w' => r = .returned (.int .i64 (a : Int)) ∧ W = w') (hao : ¬ (a : Int) = (o : Int)) (haN : (a : Int) < (N : Int)) (h46 : (bt s a == 46) = true) (ha1 : a + 1 = a1) (haL : a < 1001) (r2 : ∀ W, Calls Tryz.prog 125 #[.string s, .int .i64 (a1 : Int)] W fun r w' => r = .returned (.int .i64 (p : Int)) ∧ W = w') (hpa : ¬ (p : Int) = (a1 : Int)) (hpN : (p : Int) < (N : Int)) (h101 : (bt s p == 101) = true) (hp1 : p + 1 = p1) (hpL : p < 1001) (hpN1 : (p1 : Int) < (N : Int)) (h43 : (bt s p1 == 43) = true) (hp2 : p1 + 1 = p2) (hp1L : p1 < 1002) (r4 : ∀ W, Calls Tryz.prog 125 #[.string s, .int .i64 (p2 : Int)] W fun r w' => r = .returned (.int .i64 (N : Int)) ∧ W = w') (hz : ¬ (N : Int) = (p2 : Int)) (w : World) : Calls Tryz.prog 85 #[.string s, .int .i64 (o : Int)] w fun r w' => r = .returned (.bool true) ∧ w = w' := by
 have hb := get_bt s
 have wa1 : IntKind.i64.wrap ((a : Int) + 1) = (a1 : Int) := by rw [IntWalk.i64_in _ (by omega)]; omega
 have wp1 : IntKind.i64.wrap ((p : Int) + 1) = (p1 : Int) := by rw [IntWalk.i64_in _ (by omega)]; omega
 have wp2 : IntKind.i64.wrap ((p1 : Int) + 1) = (p2 : Int) := by rw [IntWalk.i64_in _ (by omega)]; omega
 clear ha1
 clear hp1
 clear hp2
 clear hl
 have H_r1 := hid r1
 have H_r2 := hid r2
 have H_r4 := hid r4
 clear r1 r2 r4
 go_enter Tryz.func85, Tryz.ntmps85
 go_wp2_with (first
   | (go_at_call 125; (with_reducible refine (H_r1.out _).mono ?_); rintro e w9 ⟨rfl, rfl⟩)
   | (go_at_call 125; (with_reducible refine (H_r2.out _).mono ?_); rintro e w9 ⟨rfl, rfl⟩)
   | (go_at_call 125; (with_reducible refine (H_r4.out _).mono ?_); rintro e w9 ⟨rfl, rfl⟩)
   | fail)
 go_ret
 exact ⟨rfl, rfl⟩
theorem nu_c_mf (s : ByteArray) (N o a a1 p p1 p2 z : Nat) (hN : s.size = N) (hl : N ≤ 1001) (r1 : ∀ W, Calls Tryz.prog 125 #[.string s, .int .i64 (o : Int)] W fun r w' => r = .returned (.int .i64 (a : Int)) ∧ W = w') (hao : ¬ (a : Int) = (o : Int)) (haN : (a : Int) < (N : Int)) (h46 : (bt s a == 46) = true) (ha1 : a + 1 = a1) (haL : a < 1001) (r2 : ∀ W, Calls Tryz.prog 125 #[.string s, .int .i64 (a1 : Int)] W fun r w' => r = .returned (.int .i64 (p : Int)) ∧ W = w') (hpa : ¬ (p : Int) = (a1 : Int)) (hpN : (p : Int) < (N : Int)) (h101 : (bt s p == 101) = true) (hp1 : p + 1 = p1) (hpL : p < 1001) (hpN1 : (p1 : Int) < (N : Int)) (h43 : (bt s p1 == 43) = false) (h45 : (bt s p1 == 45) = true) (hp2 : p1 + 1 = p2) (hp1L : p1 < 1002) (r4 : ∀ W, Calls Tryz.prog 125 #[.string s, .int .i64 (p2 : Int)] W fun r w' => r = .returned (.int .i64 (p2 : Int)) ∧ W = w') (w : World) : Calls Tryz.prog 85 #[.string s, .int .i64 (o : Int)] w fun r w' => r = .returned (.bool false) ∧ w = w' := by
 have hb := get_bt s
 have wa1 : IntKind.i64.wrap ((a : Int) + 1) = (a1 : Int) := by rw [IntWalk.i64_in _ (by omega)]; omega
 have wp1 : IntKind.i64.wrap ((p : Int) + 1) = (p1 : Int) := by rw [IntWalk.i64_in _ (by omega)]; omega
 have wp2 : IntKind.i64.wrap ((p1 : Int) + 1) = (p2 : Int) := by rw [IntWalk.i64_in _ (by omega)]; omega
 clear ha1
 clear hp1
 clear hp2
 clear hl
 have H_r1 := hid r1
 have H_r2 := hid r2
 have H_r4 := hid r4
 clear r1 r2 r4
 go_enter Tryz.func85, Tryz.ntmps85
 go_wp2_with (first
   | (go_at_call 125; (with_reducible refine (H_r1.out _).mono ?_); rintro e w9 ⟨rfl, rfl⟩)
   | (go_at_call 125; (with_reducible refine (H_r2.out _).mono ?_); rintro e w9 ⟨rfl, rfl⟩)
   | (go_at_call 125; (with_reducible refine (H_r4.out _).mono ?_); rintro e w9 ⟨rfl, rfl⟩)
   | fail)
 go_ret
 exact ⟨rfl, rfl⟩
theorem nu_c_m0 (s : ByteArray) (N o a a1 p p1 p2 z : Nat) (hN : s.size = N) (hl : N ≤ 1001) (r1 : ∀ W, Calls Tryz.prog 125 #[.string s, .int .i64 (o : Int)] W fun r w' => r = .returned (.int .i64 (a : Int)) ∧ W = w') (hao : ¬ (a : Int) = (o : Int)) (haN : (a : Int) < (N : Int)) (h46 : (bt s a == 46) = true) (ha1 : a + 1 = a1) (haL : a < 1001) (r2 : ∀ W, Calls Tryz.prog 125 #[.string s, .int .i64 (a1 : Int)] W fun r w' => r = .returned (.int .i64 (p : Int)) ∧ W = w') (hpa : ¬ (p : Int) = (a1 : Int)) (hpN : (p : Int) < (N : Int)) (h101 : (bt s p == 101) = true) (hp1 : p + 1 = p1) (hpL : p < 1001) (hpN1 : (p1 : Int) < (N : Int)) (h43 : (bt s p1 == 43) = false) (h45 : (bt s p1 == 45) = true) (hp2 : p1 + 1 = p2) (hp1L : p1 < 1002) (r4 : ∀ W, Calls Tryz.prog 125 #[.string s, .int .i64 (p2 : Int)] W fun r w' => r = .returned (.int .i64 (z : Int)) ∧ W = w') (hz : ¬ (z : Int) = (p2 : Int)) (hzN : ((z : Int) == (N : Int)) = false) (w : World) : Calls Tryz.prog 85 #[.string s, .int .i64 (o : Int)] w fun r w' => r = .returned (.bool false) ∧ w = w' := by
 have hb := get_bt s
 have wa1 : IntKind.i64.wrap ((a : Int) + 1) = (a1 : Int) := by rw [IntWalk.i64_in _ (by omega)]; omega
 have wp1 : IntKind.i64.wrap ((p : Int) + 1) = (p1 : Int) := by rw [IntWalk.i64_in _ (by omega)]; omega
 have wp2 : IntKind.i64.wrap ((p1 : Int) + 1) = (p2 : Int) := by rw [IntWalk.i64_in _ (by omega)]; omega
 clear ha1
 clear hp1
 clear hp2
 clear hl
 have H_r1 := hid r1
 have H_r2 := hid r2
 have H_r4 := hid r4
 clear r1 r2 r4
 go_enter Tryz.func85, Tryz.ntmps85
 go_wp2_with (first
   | (go_at_call 125; (with_reducible refine (H_r1.out _).mono ?_); rintro e w9 ⟨rfl, rfl⟩)
   | (go_at_call 125; (with_reducible refine (H_r2.out _).mono ?_); rintro e w9 ⟨rfl, rfl⟩)
   | (go_at_call 125; (with_reducible refine (H_r4.out _).mono ?_); rintro e w9 ⟨rfl, rfl⟩)
   | fail)
 go_ret
 exact ⟨rfl, rfl⟩
theorem nu_c_m1 (s : ByteArray) (N o a a1 p p1 p2 z : Nat) (hN : s.size = N) (hl : N ≤ 1001) (r1 : ∀ W, Calls Tryz.prog 125 #[.string s, .int .i64 (o : Int)] W fun r w' => r = .returned (.int .i64 (a : Int)) ∧ W = w') (hao : ¬ (a : Int) = (o : Int)) (haN : (a : Int) < (N : Int)) (h46 : (bt s a == 46) = true) (ha1 : a + 1 = a1) (haL : a < 1001) (r2 : ∀ W, Calls Tryz.prog 125 #[.string s, .int .i64 (a1 : Int)] W fun r w' => r = .returned (.int .i64 (p : Int)) ∧ W = w') (hpa : ¬ (p : Int) = (a1 : Int)) (hpN : (p : Int) < (N : Int)) (h101 : (bt s p == 101) = true) (hp1 : p + 1 = p1) (hpL : p < 1001) (hpN1 : (p1 : Int) < (N : Int)) (h43 : (bt s p1 == 43) = false) (h45 : (bt s p1 == 45) = true) (hp2 : p1 + 1 = p2) (hp1L : p1 < 1002) (r4 : ∀ W, Calls Tryz.prog 125 #[.string s, .int .i64 (p2 : Int)] W fun r w' => r = .returned (.int .i64 (N : Int)) ∧ W = w') (hz : ¬ (N : Int) = (p2 : Int)) (w : World) : Calls Tryz.prog 85 #[.string s, .int .i64 (o : Int)] w fun r w' => r = .returned (.bool true) ∧ w = w' := by
 have hb := get_bt s
 have wa1 : IntKind.i64.wrap ((a : Int) + 1) = (a1 : Int) := by rw [IntWalk.i64_in _ (by omega)]; omega
 have wp1 : IntKind.i64.wrap ((p : Int) + 1) = (p1 : Int) := by rw [IntWalk.i64_in _ (by omega)]; omega
 have wp2 : IntKind.i64.wrap ((p1 : Int) + 1) = (p2 : Int) := by rw [IntWalk.i64_in _ (by omega)]; omega
 clear ha1
 clear hp1
 clear hp2
 clear hl
 have H_r1 := hid r1
 have H_r2 := hid r2
 have H_r4 := hid r4
 clear r1 r2 r4
 go_enter Tryz.func85, Tryz.ntmps85
 go_wp2_with (first
   | (go_at_call 125; (with_reducible refine (H_r1.out _).mono ?_); rintro e w9 ⟨rfl, rfl⟩)
   | (go_at_call 125; (with_reducible refine (H_r2.out _).mono ?_); rintro e w9 ⟨rfl, rfl⟩)
   | (go_at_call 125; (with_reducible refine (H_r4.out _).mono ?_); rintro e w9 ⟨rfl, rfl⟩)
   | fail)
 go_ret
 exact ⟨rfl, rfl⟩
theorem nu_c_t1 (s : ByteArray) (N o a a1 p p1 p2 z : Nat) (hN : s.size = N) (hl : N ≤ 1001) (r1 : ∀ W, Calls Tryz.prog 125 #[.string s, .int .i64 (o : Int)] W fun r w' => r = .returned (.int .i64 (a : Int)) ∧ W = w') (hao : ¬ (a : Int) = (o : Int)) (haN : (a : Int) < (N : Int)) (h46 : (bt s a == 46) = true) (ha1 : a + 1 = a1) (haL : a < 1001) (r2 : ∀ W, Calls Tryz.prog 125 #[.string s, .int .i64 (a1 : Int)] W fun r w' => r = .returned (.int .i64 (N : Int)) ∧ W = w') (hpa : ¬ (N : Int) = (a1 : Int)) (w : World) : Calls Tryz.prog 85 #[.string s, .int .i64 (o : Int)] w fun r w' => r = .returned (.bool true) ∧ w = w' := by
 have hb := get_bt s
 have wa1 : IntKind.i64.wrap ((a : Int) + 1) = (a1 : Int) := by rw [IntWalk.i64_in _ (by omega)]; omega
 clear ha1
 clear hl
 have H_r1 := hid r1
 have H_r2 := hid r2
 clear r1 r2
 go_enter Tryz.func85, Tryz.ntmps85
 go_wp2_with (first
   | (go_at_call 125; (with_reducible refine (H_r1.out _).mono ?_); rintro e w9 ⟨rfl, rfl⟩)
   | (go_at_call 125; (with_reducible refine (H_r2.out _).mono ?_); rintro e w9 ⟨rfl, rfl⟩)
   | fail)
 go_ret
 exact ⟨rfl, rfl⟩
end
end Go.Proofs.YtlhfemgimieooaaGreatDoor
