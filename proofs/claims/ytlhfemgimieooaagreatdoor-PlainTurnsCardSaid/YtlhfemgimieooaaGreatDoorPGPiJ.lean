/- Numerals as a source writes them: what both sides say. -/
import Derived.Test.YtlhfemgimieooaaGreatDoorPGPiG
import Derived.Test.YtlhfemgimieooaaGreatDoorPGRlD
import Derived.Test.YtlhfemgimieooaaGreatDoorPGRlT
set_option linter.unusedVariables false
set_option linter.unusedSimpArgs false
set_option maxRecDepth 100000
namespace Go.Proofs.YtlhfemgimieooaaGreatDoor
open Go.Lib (hid)
open Go Go.ChangeShapes Go.WideShapes Go.RowKit Go.PlainAid
section
theorem cd_yes {s : ByteArray} {k e : Nat} (h : Rn s k e) (hlt : k < e) (hz : s.size ≤ 1000) (W : World) : Calls Tryz.prog 119 #[.string (sb s k)] W fun r w' => r = .returned (.tuple #[.string (sb s e), .bool true]) ∧ W = w' := by
 have := cutd_any s k e h hz W
 rw [decide_eq_true hlt] at this
 exact this
theorem cd_no {s : ByteArray} {k : Nat} (h : Rn s k k) (hz : s.size ≤ 1000) (W : World) : Calls Tryz.prog 119 #[.string (sb s k)] W fun r w' => r = .returned (.tuple #[.string (sb s k), .bool false]) ∧ W = w' := by
 have := cutd_any s k k h hz W
 rw [decide_eq_false (Nat.lt_irrefl k)] at this
 exact this
theorem cp_yes (s : ByteArray) (c : UInt8) {k : Nat} (h : k < s.size) (hc : bt s k = (c.toNat : Int)) (W : World) : Calls Tryz.prog 74 #[.string (sb s k), .string ⟨#[c]⟩] W fun r w' => r = .returned (.tuple #[.string (sb s (k + 1)), .bool true]) ∧ W = w' :=
 cut_call s c k _ _ (cut_yes s c h hc) W
theorem cp_no (s : ByteArray) (c : UInt8) {k : Nat} (h : ¬ (k < s.size ∧ bt s k = (c.toNat : Int))) (W : World) : Calls Tryz.prog 74 #[.string (sb s k), .string ⟨#[c]⟩] W fun r w' => r = .returned (.tuple #[.string (sb s k), .bool false]) ∧ W = w' :=
 cut_call s c k _ _ (cut_no s c h) W
theorem emp_d (t : ByteArray) : t.toList.isEmpty = decide (t.size = 0) := by
 obtain ⟨⟨l⟩⟩ := t
 have e : (ByteArray.mk ⟨l⟩).toList = l := by simp
 rw [e]
 cases l <;> simp [ByteArray.size]
theorem emp_yes (s : ByteArray) {k : Nat} (h : s.size ≤ k) : (sb s k).toList.isEmpty = true := by
 rw [emp_d, sb_size]; exact decide_eq_true (by omega)
theorem emp_no (s : ByteArray) {k : Nat} (h : k < s.size) : (sb s k).toList.isEmpty = false := by
 rw [emp_d, sb_size]; exact decide_eq_false (by omega)
theorem mk_nml {s : ByteArray} {o a p q : Nat} (hz : s.size ≤ 1000) (ra : Rn s o a) (ha : o < a) (hd : p = a ∨ (bt s a = 46 ∧ a + 1 < p ∧ Rn s (a + 1) p)) (hp : p ≤ s.size)
   (he : p = s.size ∨ (bt s p = 101 ∧ q < s.size ∧ ((q = p + 1 ∧ bt s (p + 1) ≠ 43 ∧ bt s (p + 1) ≠ 45) ∨ (q = p + 2 ∧ (bt s (p + 1) = 43 ∨ bt s (p + 1) = 45))) ∧ Rn s q s.size)) : Nml (sb s o) (a - o) (p - o) (q - o) := by
 have hap : a ≤ p := by rcases hd with h | ⟨_, h, _⟩ <;> omega
 have hsz := sb_size s o
 have hbt : ∀ i, o + i < s.size → bt (sb s o) i = bt s (o + i) := fun i hi => sb_bt s hi
 refine ⟨by omega, by omega, by omega, by omega, ?_, ?_, ?_, ?_, ?_⟩
 · intro i hi
   rw [hbt i (by omega)]; exact ra.d _ (by omega) (by omega)
 · intro h
   rcases hd with h1 | ⟨h1, h2, h3⟩
   · omega
   · rw [hbt _ (by omega), show o + (a - o) = a by omega]
     exact ⟨h1, by omega⟩
 · intro i h1 h2
   rcases hd with h3 | ⟨_, _, h3⟩
   · omega
   · rw [hbt i (by omega)]; exact h3.d _ (by omega) (by omega)
 · intro h
   rcases he with h1 | ⟨h1, h2, h3, h4⟩
   · omega
   · rw [hbt _ (by omega), show o + (p - o) = p by omega]
     refine ⟨h1, by omega, ?_⟩
     have hp1 : p + 1 < s.size := by rcases h3 with ⟨h5, _⟩ | ⟨h5, _⟩ <;> omega
     rw [hbt _ (by omega), show o + (p - o + 1) = p + 1 by omega]
     rcases h3 with ⟨h5, h6⟩ | ⟨h5, h6⟩
     · exact .inl ⟨by omega, h6⟩
     · exact .inr ⟨by omega, h6⟩
 · intro i h h1 h2
   rcases he with h3 | ⟨h3, h4, h5, h6⟩
   · omega
   · rw [hbt i (by omega)]; exact h6.d _ (by omega) (by omega)
def NumB (s : ByteArray) (o : Nat) (b : Bool) : Prop :=
 (∀ w, Calls Tryz.prog 78 #[.string (sb s o)] w fun r w' => r = .returned (.bool b) ∧ w = w') ∧
 (∀ w, Calls Tryz.prog 85 #[.string s, .int .i64 (o : Int)] w fun r w' => r = .returned (.bool b) ∧ w = w') ∧
 (b = true → ∃ a p q, Nml (sb s o) a p q)
theorem beF {a b : Int} (h : ¬ a = b) : (a == b) = false := by rw [beq_eq_false_iff_ne]; exact h
theorem beT {a b : Int} (h : a = b) : (a == b) = true := by rw [h]; simp
theorem both_a {s : ByteArray} {o p : Nat} (hz : s.size ≤ 1000) (ra : Rn s o p) (ha : o < p) (hN : p < s.size) (h46 : bt s p ≠ 46) : ∃ b, NumB s o b := by
 have hlp := ra.hi
 have hpl : p < s.size := hN
 by_cases h101 : bt s p = 101
 · by_cases hp1 : p + 1 = s.size
   · refine ⟨false, fun w => ?_, fun w => ?_, fun h => by cases h⟩
     · have h5 := cd_no (s := s) (k := p + 1) ⟨Nat.le_refl _, by omega, fun i h1 h2 => by omega, fun h => by omega⟩ hz
       have h4 := cp_yes s 101 hpl h101
       rw [sb_nil s (show s.size ≤ p + 1 by omega)] at h4 h5
       exact id_a_e1 (sb s o) (sb s p) _ (cd_yes ra ha hz) (cp_no s 46 (fun h => h46 h.2)) h4 h5 w
     · exact nu_a_e1 s s.size o 0 0 p (p + 1) 0 0 rfl (by omega) (rrun_any s o p ra (by omega)) (by omega) (by omega) (beF h46) (beT h101) rfl (by omega) (by omega) (rrun_any s (p + 1) (p + 1) ⟨Nat.le_refl _, by omega, fun i h1 h2 => by omega, fun h => by omega⟩ (by omega)) w
   · have hp1l : p + 1 < s.size := by omega
     have hr2 : 0 < (sb s (p + 1)).size := by rw [sb_size]; omega
     have hb2 : bt (sb s (p + 1)) 0 = bt s (p + 1) := by rw [sb_bt s (by omega)]
     have hen := emp_no s hp1l
     have h4 := cp_yes s 101 hpl h101
     by_cases hs : bt s (p + 1) = 43
     · have hx : (sb s (p + 1)).extract 1 (sb s (p + 1)).size = sb s (p + 2) := by rw [sb_ext _ _ (by omega), sb_sb]
       obtain ⟨z, rz⟩ := Rn.ex s (s.size - (p + 2)) (p + 2) (by omega)
       have hzl := rz.lo
       have hzh := rz.hi
       by_cases hzq : z = p + 2
       · rw [hzq] at rz
         refine ⟨false, fun w => id_a_uf (sb s o) (sb s p) (sb s (p + 1)) (sb s (p + 2)) _ (cd_yes ra ha hz) (cp_no s 46 (fun h => h46 h.2)) h4 (cd_no rz hz) hen hr2 (by rw [hb2]; exact beT hs) hx w, fun w => nu_a_uf s s.size o 0 0 p (p + 1) (p + 2) 0 rfl (by omega) (rrun_any s o p ra (by omega)) (by omega) (by omega) (beF h46) (beT h101) rfl (by omega) (by omega) (beT hs) rfl (by omega) (rrun_any s _ _ rz (by omega)) w, fun h => by cases h⟩
       · by_cases hzN : z = s.size
         · rw [hzN] at rz
           refine ⟨true, fun w => id_a_u1 (sb s o) (sb s p) (sb s (p + 1)) (sb s (p + 2)) _ (cd_yes ra ha hz) (cp_no s 46 (fun h => h46 h.2)) h4 (cd_yes rz (by omega) hz) (emp_yes s (Nat.le_refl _)) hen hr2 (by rw [hb2]; exact beT hs) hx w, fun w => nu_a_u1 s s.size o 0 0 p (p + 1) (p + 2) 0 rfl (by omega) (rrun_any s o p ra (by omega)) (by omega) (by omega) (beF h46) (beT h101) rfl (by omega) (by omega) (beT hs) rfl (by omega) (rrun_any s _ _ rz (by omega)) (by omega) w, fun _ => ⟨_, _, _, mk_nml hz ra ha (.inl rfl) (by omega) (.inr ⟨h101, by omega, .inr ⟨rfl, .inl hs⟩, rz⟩)⟩⟩
         · refine ⟨false, fun w => id_a_u0 (sb s o) (sb s p) (sb s (p + 1)) (sb s (p + 2)) _ (cd_yes ra ha hz) (cp_no s 46 (fun h => h46 h.2)) h4 (cd_yes rz (by omega) hz) (emp_no s (by omega)) hen hr2 (by rw [hb2]; exact beT hs) hx w, fun w => nu_a_u0 s s.size o 0 0 p (p + 1) (p + 2) z rfl (by omega) (rrun_any s o p ra (by omega)) (by omega) (by omega) (beF h46) (beT h101) rfl (by omega) (by omega) (beT hs) rfl (by omega) (rrun_any s _ _ rz (by omega)) (by omega) (beF (by omega)) w, fun h => by cases h⟩
     have hs0 := hs
     clear hs
     by_cases hs : bt s (p + 1) = 45
     · have hx : (sb s (p + 1)).extract 1 (sb s (p + 1)).size = sb s (p + 2) := by rw [sb_ext _ _ (by omega), sb_sb]
       obtain ⟨z, rz⟩ := Rn.ex s (s.size - (p + 2)) (p + 2) (by omega)
       have hzl := rz.lo
       have hzh := rz.hi
       by_cases hzq : z = p + 2
       · rw [hzq] at rz
         refine ⟨false, fun w => id_a_mf (sb s o) (sb s p) (sb s (p + 1)) (sb s (p + 2)) _ (cd_yes ra ha hz) (cp_no s 46 (fun h => h46 h.2)) h4 (cd_no rz hz) hen hr2 (by rw [hb2]; exact beF (by omega)) (by rw [hb2]; exact beT hs) hx w, fun w => nu_a_mf s s.size o 0 0 p (p + 1) (p + 2) 0 rfl (by omega) (rrun_any s o p ra (by omega)) (by omega) (by omega) (beF h46) (beT h101) rfl (by omega) (by omega) (beF (by omega)) (beT hs) rfl (by omega) (rrun_any s _ _ rz (by omega)) w, fun h => by cases h⟩
       · by_cases hzN : z = s.size
         · rw [hzN] at rz
           refine ⟨true, fun w => id_a_m1 (sb s o) (sb s p) (sb s (p + 1)) (sb s (p + 2)) _ (cd_yes ra ha hz) (cp_no s 46 (fun h => h46 h.2)) h4 (cd_yes rz (by omega) hz) (emp_yes s (Nat.le_refl _)) hen hr2 (by rw [hb2]; exact beF (by omega)) (by rw [hb2]; exact beT hs) hx w, fun w => nu_a_m1 s s.size o 0 0 p (p + 1) (p + 2) 0 rfl (by omega) (rrun_any s o p ra (by omega)) (by omega) (by omega) (beF h46) (beT h101) rfl (by omega) (by omega) (beF (by omega)) (beT hs) rfl (by omega) (rrun_any s _ _ rz (by omega)) (by omega) w, fun _ => ⟨_, _, _, mk_nml hz ra ha (.inl rfl) (by omega) (.inr ⟨h101, by omega, .inr ⟨rfl, .inr hs⟩, rz⟩)⟩⟩
         · refine ⟨false, fun w => id_a_m0 (sb s o) (sb s p) (sb s (p + 1)) (sb s (p + 2)) _ (cd_yes ra ha hz) (cp_no s 46 (fun h => h46 h.2)) h4 (cd_yes rz (by omega) hz) (emp_no s (by omega)) hen hr2 (by rw [hb2]; exact beF (by omega)) (by rw [hb2]; exact beT hs) hx w, fun w => nu_a_m0 s s.size o 0 0 p (p + 1) (p + 2) z rfl (by omega) (rrun_any s o p ra (by omega)) (by omega) (by omega) (beF h46) (beT h101) rfl (by omega) (by omega) (beF (by omega)) (beT hs) rfl (by omega) (rrun_any s _ _ rz (by omega)) (by omega) (beF (by omega)) w, fun h => by cases h⟩
     obtain ⟨hs1, hs2⟩ : bt s (p + 1) ≠ 43 ∧ bt s (p + 1) ≠ 45 := ⟨hs0, hs⟩
     obtain ⟨z, rz⟩ := Rn.ex s (s.size - (p + 1)) (p + 1) (by omega)
     have hzl := rz.lo
     have hzh := rz.hi
     by_cases hzq : z = p + 1
     · rw [hzq] at rz
       refine ⟨false, fun w => id_a_nf (sb s o) (sb s p) (sb s (p + 1)) _ (cd_yes ra ha hz) (cp_no s 46 (fun h => h46 h.2)) h4 (cd_no rz hz) hen hr2 (by rw [hb2]; exact beF hs1) (by rw [hb2]; exact beF hs2) w, fun w => nu_a_nf s s.size o 0 0 p (p + 1) (0) 0 rfl (by omega) (rrun_any s o p ra (by omega)) (by omega) (by omega) (beF h46) (beT h101) rfl (by omega) (by omega) (beF hs1) (beF hs2) (rrun_any s _ _ rz (by omega)) w, fun h => by cases h⟩
     · by_cases hzN : z = s.size
       · rw [hzN] at rz
         refine ⟨true, fun w => id_a_n1 (sb s o) (sb s p) (sb s (p + 1)) _ (cd_yes ra ha hz) (cp_no s 46 (fun h => h46 h.2)) h4 (cd_yes rz (by omega) hz) (emp_yes s (Nat.le_refl _)) hen hr2 (by rw [hb2]; exact beF hs1) (by rw [hb2]; exact beF hs2) w, fun w => nu_a_n1 s s.size o 0 0 p (p + 1) (0) 0 rfl (by omega) (rrun_any s o p ra (by omega)) (by omega) (by omega) (beF h46) (beT h101) rfl (by omega) (by omega) (beF hs1) (beF hs2) (rrun_any s _ _ rz (by omega)) (by omega) w, fun _ => ⟨_, _, _, mk_nml hz ra ha (.inl rfl) (by omega) (.inr ⟨h101, by omega, .inl ⟨rfl, hs1, hs2⟩, rz⟩)⟩⟩
       · refine ⟨false, fun w => id_a_n0 (sb s o) (sb s p) (sb s (p + 1)) _ (cd_yes ra ha hz) (cp_no s 46 (fun h => h46 h.2)) h4 (cd_yes rz (by omega) hz) (emp_no s (by omega)) hen hr2 (by rw [hb2]; exact beF hs1) (by rw [hb2]; exact beF hs2) w, fun w => nu_a_n0 s s.size o 0 0 p (p + 1) (0) z rfl (by omega) (rrun_any s o p ra (by omega)) (by omega) (by omega) (beF h46) (beT h101) rfl (by omega) (by omega) (beF hs1) (beF hs2) (rrun_any s _ _ rz (by omega)) (by omega) (beF (by omega)) w, fun h => by cases h⟩
 · refine ⟨false, fun w => id_a_t0 (sb s o) (sb s p) _ (cd_yes ra ha hz) (cp_no s 46 (fun h => h46 h.2)) (cp_no s 101 (fun h => h101 h.2)) (emp_no s hpl) w, fun w => nu_a_t2 s s.size o 0 0 p 0 0 0 rfl (by omega) (rrun_any s o p ra (by omega)) (by omega) (by omega) (beF h46) (beF h101) (beF (by omega)) w, fun h => by cases h⟩
theorem both_c {s : ByteArray} {o a p : Nat} (hz : s.size ≤ 1000) (ra : Rn s o a) (ha : o < a) (hN : a < s.size) (h46 : bt s a = 46) (rp : Rn s (a + 1) p) (hp : a + 1 < p) : ∃ b, NumB s o b := by
 have hlp := rp.hi
 by_cases hpN : p = s.size
 · rw [hpN] at rp hp
   refine ⟨true, fun w => id_c_t1 (sb s o) (sb s a) (sb s (a + 1)) (sb s s.size) _ (cd_yes ra ha hz) (cp_yes s 46 hN h46) (cd_yes rp hp hz) (cp_no s 101 (fun h => absurd h.1 (by omega))) (emp_yes s (Nat.le_refl _)) w, fun w => nu_c_t1 s s.size o a (a + 1) 0 0 0 0 rfl (by omega) (rrun_any s o a ra (by omega)) (by omega) (by omega) (beT h46) rfl (by omega) (rrun_any s (a + 1) s.size rp (by omega)) (by omega) w, fun _ => ⟨_, _, _, mk_nml hz ra ha (.inr ⟨h46, hp, rp⟩) (q := 0) (Nat.le_refl _) (.inl rfl)⟩⟩
 have hpl : p < s.size := by omega
 by_cases h101 : bt s p = 101
 · by_cases hp1 : p + 1 = s.size
   · refine ⟨false, fun w => ?_, fun w => ?_, fun h => by cases h⟩
     · have h5 := cd_no (s := s) (k := p + 1) ⟨Nat.le_refl _, by omega, fun i h1 h2 => by omega, fun h => by omega⟩ hz
       have h4 := cp_yes s 101 hpl h101
       rw [sb_nil s (show s.size ≤ p + 1 by omega)] at h4 h5
       exact id_c_e1 (sb s o) (sb s a) (sb s (a + 1)) (sb s p) _ (cd_yes ra ha hz) (cp_yes s 46 hN h46) (cd_yes rp hp hz) h4 h5 w
     · exact nu_c_e1 s s.size o a (a + 1) p (p + 1) 0 0 rfl (by omega) (rrun_any s o a ra (by omega)) (by omega) (by omega) (beT h46) rfl (by omega) (rrun_any s (a + 1) p rp (by omega)) (by omega) (by omega) (beT h101) rfl (by omega) (by omega) (rrun_any s (p + 1) (p + 1) ⟨Nat.le_refl _, by omega, fun i h1 h2 => by omega, fun h => by omega⟩ (by omega)) w
   · have hp1l : p + 1 < s.size := by omega
     have hr2 : 0 < (sb s (p + 1)).size := by rw [sb_size]; omega
     have hb2 : bt (sb s (p + 1)) 0 = bt s (p + 1) := by rw [sb_bt s (by omega)]
     have hen := emp_no s hp1l
     have h4 := cp_yes s 101 hpl h101
     by_cases hs : bt s (p + 1) = 43
     · have hx : (sb s (p + 1)).extract 1 (sb s (p + 1)).size = sb s (p + 2) := by rw [sb_ext _ _ (by omega), sb_sb]
       obtain ⟨z, rz⟩ := Rn.ex s (s.size - (p + 2)) (p + 2) (by omega)
       have hzl := rz.lo
       have hzh := rz.hi
       by_cases hzq : z = p + 2
       · rw [hzq] at rz
         refine ⟨false, fun w => id_c_uf (sb s o) (sb s a) (sb s (a + 1)) (sb s p) (sb s (p + 1)) (sb s (p + 2)) _ (cd_yes ra ha hz) (cp_yes s 46 hN h46) (cd_yes rp hp hz) h4 (cd_no rz hz) hen hr2 (by rw [hb2]; exact beT hs) hx w, fun w => nu_c_uf s s.size o a (a + 1) p (p + 1) (p + 2) 0 rfl (by omega) (rrun_any s o a ra (by omega)) (by omega) (by omega) (beT h46) rfl (by omega) (rrun_any s (a + 1) p rp (by omega)) (by omega) (by omega) (beT h101) rfl (by omega) (by omega) (beT hs) rfl (by omega) (rrun_any s _ _ rz (by omega)) w, fun h => by cases h⟩
       · by_cases hzN : z = s.size
         · rw [hzN] at rz
           refine ⟨true, fun w => id_c_u1 (sb s o) (sb s a) (sb s (a + 1)) (sb s p) (sb s (p + 1)) (sb s (p + 2)) _ (cd_yes ra ha hz) (cp_yes s 46 hN h46) (cd_yes rp hp hz) h4 (cd_yes rz (by omega) hz) (emp_yes s (Nat.le_refl _)) hen hr2 (by rw [hb2]; exact beT hs) hx w, fun w => nu_c_u1 s s.size o a (a + 1) p (p + 1) (p + 2) 0 rfl (by omega) (rrun_any s o a ra (by omega)) (by omega) (by omega) (beT h46) rfl (by omega) (rrun_any s (a + 1) p rp (by omega)) (by omega) (by omega) (beT h101) rfl (by omega) (by omega) (beT hs) rfl (by omega) (rrun_any s _ _ rz (by omega)) (by omega) w, fun _ => ⟨_, _, _, mk_nml hz ra ha (.inr ⟨h46, hp, rp⟩) (by omega) (.inr ⟨h101, by omega, .inr ⟨rfl, .inl hs⟩, rz⟩)⟩⟩
         · refine ⟨false, fun w => id_c_u0 (sb s o) (sb s a) (sb s (a + 1)) (sb s p) (sb s (p + 1)) (sb s (p + 2)) _ (cd_yes ra ha hz) (cp_yes s 46 hN h46) (cd_yes rp hp hz) h4 (cd_yes rz (by omega) hz) (emp_no s (by omega)) hen hr2 (by rw [hb2]; exact beT hs) hx w, fun w => nu_c_u0 s s.size o a (a + 1) p (p + 1) (p + 2) z rfl (by omega) (rrun_any s o a ra (by omega)) (by omega) (by omega) (beT h46) rfl (by omega) (rrun_any s (a + 1) p rp (by omega)) (by omega) (by omega) (beT h101) rfl (by omega) (by omega) (beT hs) rfl (by omega) (rrun_any s _ _ rz (by omega)) (by omega) (beF (by omega)) w, fun h => by cases h⟩
     have hs0 := hs
     clear hs
     by_cases hs : bt s (p + 1) = 45
     · have hx : (sb s (p + 1)).extract 1 (sb s (p + 1)).size = sb s (p + 2) := by rw [sb_ext _ _ (by omega), sb_sb]
       obtain ⟨z, rz⟩ := Rn.ex s (s.size - (p + 2)) (p + 2) (by omega)
       have hzl := rz.lo
       have hzh := rz.hi
       by_cases hzq : z = p + 2
       · rw [hzq] at rz
         refine ⟨false, fun w => id_c_mf (sb s o) (sb s a) (sb s (a + 1)) (sb s p) (sb s (p + 1)) (sb s (p + 2)) _ (cd_yes ra ha hz) (cp_yes s 46 hN h46) (cd_yes rp hp hz) h4 (cd_no rz hz) hen hr2 (by rw [hb2]; exact beF (by omega)) (by rw [hb2]; exact beT hs) hx w, fun w => nu_c_mf s s.size o a (a + 1) p (p + 1) (p + 2) 0 rfl (by omega) (rrun_any s o a ra (by omega)) (by omega) (by omega) (beT h46) rfl (by omega) (rrun_any s (a + 1) p rp (by omega)) (by omega) (by omega) (beT h101) rfl (by omega) (by omega) (beF (by omega)) (beT hs) rfl (by omega) (rrun_any s _ _ rz (by omega)) w, fun h => by cases h⟩
       · by_cases hzN : z = s.size
         · rw [hzN] at rz
           refine ⟨true, fun w => id_c_m1 (sb s o) (sb s a) (sb s (a + 1)) (sb s p) (sb s (p + 1)) (sb s (p + 2)) _ (cd_yes ra ha hz) (cp_yes s 46 hN h46) (cd_yes rp hp hz) h4 (cd_yes rz (by omega) hz) (emp_yes s (Nat.le_refl _)) hen hr2 (by rw [hb2]; exact beF (by omega)) (by rw [hb2]; exact beT hs) hx w, fun w => nu_c_m1 s s.size o a (a + 1) p (p + 1) (p + 2) 0 rfl (by omega) (rrun_any s o a ra (by omega)) (by omega) (by omega) (beT h46) rfl (by omega) (rrun_any s (a + 1) p rp (by omega)) (by omega) (by omega) (beT h101) rfl (by omega) (by omega) (beF (by omega)) (beT hs) rfl (by omega) (rrun_any s _ _ rz (by omega)) (by omega) w, fun _ => ⟨_, _, _, mk_nml hz ra ha (.inr ⟨h46, hp, rp⟩) (by omega) (.inr ⟨h101, by omega, .inr ⟨rfl, .inr hs⟩, rz⟩)⟩⟩
         · refine ⟨false, fun w => id_c_m0 (sb s o) (sb s a) (sb s (a + 1)) (sb s p) (sb s (p + 1)) (sb s (p + 2)) _ (cd_yes ra ha hz) (cp_yes s 46 hN h46) (cd_yes rp hp hz) h4 (cd_yes rz (by omega) hz) (emp_no s (by omega)) hen hr2 (by rw [hb2]; exact beF (by omega)) (by rw [hb2]; exact beT hs) hx w, fun w => nu_c_m0 s s.size o a (a + 1) p (p + 1) (p + 2) z rfl (by omega) (rrun_any s o a ra (by omega)) (by omega) (by omega) (beT h46) rfl (by omega) (rrun_any s (a + 1) p rp (by omega)) (by omega) (by omega) (beT h101) rfl (by omega) (by omega) (beF (by omega)) (beT hs) rfl (by omega) (rrun_any s _ _ rz (by omega)) (by omega) (beF (by omega)) w, fun h => by cases h⟩
     obtain ⟨hs1, hs2⟩ : bt s (p + 1) ≠ 43 ∧ bt s (p + 1) ≠ 45 := ⟨hs0, hs⟩
     obtain ⟨z, rz⟩ := Rn.ex s (s.size - (p + 1)) (p + 1) (by omega)
     have hzl := rz.lo
     have hzh := rz.hi
     by_cases hzq : z = p + 1
     · rw [hzq] at rz
       refine ⟨false, fun w => id_c_nf (sb s o) (sb s a) (sb s (a + 1)) (sb s p) (sb s (p + 1)) _ (cd_yes ra ha hz) (cp_yes s 46 hN h46) (cd_yes rp hp hz) h4 (cd_no rz hz) hen hr2 (by rw [hb2]; exact beF hs1) (by rw [hb2]; exact beF hs2) w, fun w => nu_c_nf s s.size o a (a + 1) p (p + 1) (0) 0 rfl (by omega) (rrun_any s o a ra (by omega)) (by omega) (by omega) (beT h46) rfl (by omega) (rrun_any s (a + 1) p rp (by omega)) (by omega) (by omega) (beT h101) rfl (by omega) (by omega) (beF hs1) (beF hs2) (rrun_any s _ _ rz (by omega)) w, fun h => by cases h⟩
     · by_cases hzN : z = s.size
       · rw [hzN] at rz
         refine ⟨true, fun w => id_c_n1 (sb s o) (sb s a) (sb s (a + 1)) (sb s p) (sb s (p + 1)) _ (cd_yes ra ha hz) (cp_yes s 46 hN h46) (cd_yes rp hp hz) h4 (cd_yes rz (by omega) hz) (emp_yes s (Nat.le_refl _)) hen hr2 (by rw [hb2]; exact beF hs1) (by rw [hb2]; exact beF hs2) w, fun w => nu_c_n1 s s.size o a (a + 1) p (p + 1) (0) 0 rfl (by omega) (rrun_any s o a ra (by omega)) (by omega) (by omega) (beT h46) rfl (by omega) (rrun_any s (a + 1) p rp (by omega)) (by omega) (by omega) (beT h101) rfl (by omega) (by omega) (beF hs1) (beF hs2) (rrun_any s _ _ rz (by omega)) (by omega) w, fun _ => ⟨_, _, _, mk_nml hz ra ha (.inr ⟨h46, hp, rp⟩) (by omega) (.inr ⟨h101, by omega, .inl ⟨rfl, hs1, hs2⟩, rz⟩)⟩⟩
       · refine ⟨false, fun w => id_c_n0 (sb s o) (sb s a) (sb s (a + 1)) (sb s p) (sb s (p + 1)) _ (cd_yes ra ha hz) (cp_yes s 46 hN h46) (cd_yes rp hp hz) h4 (cd_yes rz (by omega) hz) (emp_no s (by omega)) hen hr2 (by rw [hb2]; exact beF hs1) (by rw [hb2]; exact beF hs2) w, fun w => nu_c_n0 s s.size o a (a + 1) p (p + 1) (0) z rfl (by omega) (rrun_any s o a ra (by omega)) (by omega) (by omega) (beT h46) rfl (by omega) (rrun_any s (a + 1) p rp (by omega)) (by omega) (by omega) (beT h101) rfl (by omega) (by omega) (beF hs1) (beF hs2) (rrun_any s _ _ rz (by omega)) (by omega) (beF (by omega)) w, fun h => by cases h⟩
 · refine ⟨false, fun w => id_c_t0 (sb s o) (sb s a) (sb s (a + 1)) (sb s p) _ (cd_yes ra ha hz) (cp_yes s 46 hN h46) (cd_yes rp hp hz) (cp_no s 101 (fun h => h101 h.2)) (emp_no s hpl) w, fun w => nu_c_t2 s s.size o a (a + 1) p 0 0 0 rfl (by omega) (rrun_any s o a ra (by omega)) (by omega) (by omega) (beT h46) rfl (by omega) (rrun_any s (a + 1) p rp (by omega)) (by omega) (by omega) (beF h101) (beF (by omega)) w, fun h => by cases h⟩
theorem num_both (s : ByteArray) (o : Nat) (ho : o ≤ s.size) (hz : s.size ≤ 1000) : ∃ b, NumB s o b := by
 obtain ⟨a, ra⟩ := Rn.ex s (s.size - o) o (by omega)
 have h1 := ra.lo
 have h2 := ra.hi
 by_cases hao : a = o
 · subst hao
   exact ⟨false, fun w => id_p (sb s a) _ (cd_no ra hz) w, fun w => nu_p s s.size a 0 0 0 0 0 0 rfl (by omega) (rrun_any s a a ra (by omega)) w, fun h => by cases h⟩
 · by_cases haN : a = s.size
   · rw [haN] at ra
     exact ⟨true, fun w => id_a_t1 (sb s o) (sb s s.size) _ (cd_yes ra (by omega) hz) (cp_no s 46 (fun h => absurd h.1 (Nat.lt_irrefl _))) (cp_no s 101 (fun h => absurd h.1 (Nat.lt_irrefl _))) (emp_yes s (Nat.le_refl _)) w,
       fun w => nu_z s s.size o 0 0 0 0 0 0 rfl (by omega) (rrun_any s o s.size ra (by omega)) (by omega) w, fun _ => ⟨_, _, _, mk_nml hz ra (by omega) (.inl rfl) (q := 0) (Nat.le_refl _) (.inl rfl)⟩⟩
   · by_cases h46 : bt s a = 46
     · obtain ⟨p, rp⟩ := Rn.ex s (s.size - (a + 1)) (a + 1) (by omega)
       have h3 := rp.lo
       by_cases hpa : p = a + 1
       · rw [hpa] at rp
         exact ⟨false, fun w => id_b (sb s o) (sb s a) (sb s (a + 1)) _ (cd_yes ra (by omega) hz) (cp_yes s 46 (by omega) h46) (cd_no rp hz) w,
           fun w => nu_b s s.size o a (a + 1) 0 0 0 0 rfl (by omega) (rrun_any s o a ra (by omega)) (by omega) (by omega) (beT h46) rfl (by omega) (rrun_any s _ _ rp (by omega)) w, fun h => by cases h⟩
       · exact both_c hz ra (by omega) (by omega) h46 rp (by omega)
     · exact both_a hz ra (by omega) (by omega) h46
end
section
theorem inf_one (w : World) : Calls Tryz.prog 77 #[.int .i64 1] w fun r w' => r = .returned (.float .f64 fIN) ∧ w = w' := by
 have hfb : (callFunc 105 #[.int .u64 9218868437227405312]).run Tryz.prog w = .ok (.value (.float .f64 9218868437227405312)) w := run_frombits 9218868437227405312 w
 go_enter Tryz.func77, Tryz.ntmps77
 go_wp2_with fail
 go_ret
 exact ⟨rfl, rfl⟩
theorem pat_nn {x : Nat} (h : nanB x = false) (w : World) : Calls Tryz.prog 61 #[.float .f64 x] w fun e w' => e = .returned (.int .u64 (x : Int)) ∧ w = w' := by
 have := pattern_any x w
 rw [show patB x = x by unfold patB; rw [if_neg (by rw [h]; simp)]] at this
 exact this
def RPa (s : ByteArray) (b : Nat) (e : Int) (w : World) : Prop := Calls Tryz.prog 36 #[.string s] w fun r w' => r = .returned (.tuple #[.int .u64 (b : Int), .int .i64 e]) ∧ Below w.heap.size w w'
def DPa (s : ByteArray) (b : Nat) (e : Int) (w : World) : Prop := Calls Tryz.prog 45 #[.string s] w fun r w' => r = .returned (.tuple #[.int .u64 (b : Int), .int .i64 e]) ∧ Below w.heap.size w w'
theorem rp_long (s B : ByteArray)  (w : World) (hz : ¬ s.size ≤ 1000) : RPa s 0 2 w := by
 unfold RPa
 have hzI : (1000 : Int) < (s.size : Int) := by omega
 go_enter Tryz.func36, Tryz.ntmps36
 go_wp2_with fail
 go_ret2
 exact ⟨rfl, Below.refl _ _⟩
theorem rp_nan_p (s B : ByteArray)  (w : World) (hz : s.size ≤ 1000) (h1 : ∀ W, Calls Tryz.prog 74 #[.string s, .string ⟨#[45]⟩] W fun r w' => r = .returned (.tuple #[.string B, .bool false]) ∧ W = w') (qn : (B.toList == [110, 97, 110]) = true) : RPa s 9221120237041090560 0 w := by
 unfold RPa
 have hzI : ¬ (1000 : Int) < (s.size : Int) := by omega
 have H_h1 := hid h1
 clear h1
 go_enter Tryz.func36, Tryz.ntmps36
 go_wp2_with (first
   | (go_at_call 74; (with_reducible refine (H_h1.out _).mono ?_); rintro e w9 ⟨rfl, rfl⟩)
   | fail)
 go_ret2
 exact ⟨rfl, Below.refl _ _⟩
theorem rp_inf_p (s B : ByteArray)  (w : World) (hz : s.size ≤ 1000) (h1 : ∀ W, Calls Tryz.prog 74 #[.string s, .string ⟨#[45]⟩] W fun r w' => r = .returned (.tuple #[.string B, .bool false]) ∧ W = w') (qn : (B.toList == [110, 97, 110]) = false) (qi : (B.toList == [105, 110, 102]) = true) : RPa s fIN 0 w := by
 unfold RPa
 have hzI : ¬ (1000 : Int) < (s.size : Int) := by omega
 have p := fun W => pat_nn (x := fIN) (by decide +kernel) W
 have H_h1 := hid h1
 have H_p := hid p
 clear h1 p
 go_enter Tryz.func36, Tryz.ntmps36
 go_wp2_with (first
   | (go_at_call 74; (with_reducible refine (H_h1.out _).mono ?_); rintro e w9 ⟨rfl, rfl⟩)
   | (go_at_call 77; (with_reducible refine (inf_one _).mono ?_); rintro e w9 ⟨rfl, rfl⟩)
   | (go_at_call 61; (with_reducible refine (H_p.out _).mono ?_); rintro e w9 ⟨rfl, rfl⟩)
   | fail)
 go_ret2
 exact ⟨rfl, Below.refl _ _⟩
theorem rp_num_p (s B : ByteArray) (F : Nat) (w : World) (hF : F ≤ fIN) (hz : s.size ≤ 1000) (h1 : ∀ W, Calls Tryz.prog 74 #[.string s, .string ⟨#[45]⟩] W fun r w' => r = .returned (.tuple #[.string B, .bool false]) ∧ W = w') (qn : (B.toList == [110, 97, 110]) = false) (qi : (B.toList == [105, 110, 102]) = false) (h2 : ∀ W, Calls Tryz.prog 78 #[.string B] W fun r w' => r = .returned (.bool true) ∧ W = w') (h3 : Calls Tryz.prog 79 #[.string B, .int .i64 64] w fun r w' => (∃ v, r = .returned (.tuple #[.float .f64 F, v])) ∧ Below w.heap.size w w') : RPa s F 0 w := by
 unfold RPa
 have hzI : ¬ (1000 : Int) < (s.size : Int) := by omega
 have p := fun W => pat_nn (nn_le hF).1 W
 have H_h1 := hid h1
 have H_h2 := hid h2
 have H_h3 := hid h3
 have H_p := hid p
 clear h1 h2 h3 p
 go_enter Tryz.func36, Tryz.ntmps36
 go_wp2_with (first
   | (go_at_call 74; (with_reducible refine (H_h1.out _).mono ?_); rintro e w9 ⟨rfl, rfl⟩)
   | (go_at_call 78; (with_reducible refine (H_h2.out _).mono ?_); rintro e w9 ⟨rfl, rfl⟩)
   | (go_at_call 79; (with_reducible refine H_h3.out.mono ?_); rintro e w4 ⟨⟨v4, rfl⟩, hb4⟩; have HB4 := hid hb4; clear hb4)
   | (go_at_call 61; (with_reducible refine (H_p.out _).mono ?_); rintro e w9 ⟨rfl, rfl⟩)
   | fail)
 go_ret2
 exact ⟨rfl, HB4.out⟩
theorem rp_bad_p (s B : ByteArray)  (w : World) (hz : s.size ≤ 1000) (h1 : ∀ W, Calls Tryz.prog 74 #[.string s, .string ⟨#[45]⟩] W fun r w' => r = .returned (.tuple #[.string B, .bool false]) ∧ W = w') (qn : (B.toList == [110, 97, 110]) = false) (qi : (B.toList == [105, 110, 102]) = false) (h2 : ∀ W, Calls Tryz.prog 78 #[.string B] W fun r w' => r = .returned (.bool false) ∧ W = w') : RPa s 0 4 w := by
 unfold RPa
 have hzI : ¬ (1000 : Int) < (s.size : Int) := by omega
 have H_h1 := hid h1
 have H_h2 := hid h2
 clear h1 h2
 go_enter Tryz.func36, Tryz.ntmps36
 go_wp2_with (first
   | (go_at_call 74; (with_reducible refine (H_h1.out _).mono ?_); rintro e w9 ⟨rfl, rfl⟩)
   | (go_at_call 78; (with_reducible refine (H_h2.out _).mono ?_); rintro e w9 ⟨rfl, rfl⟩)
   | fail)
 go_ret2
 exact ⟨rfl, Below.refl _ _⟩
theorem rp_nan_m (s B : ByteArray)  (w : World) (hz : s.size ≤ 1000) (h1 : ∀ W, Calls Tryz.prog 74 #[.string s, .string ⟨#[45]⟩] W fun r w' => r = .returned (.tuple #[.string B, .bool true]) ∧ W = w') (qn : (B.toList == [110, 97, 110]) = true) : RPa s 9221120237041090560 0 w := by
 unfold RPa
 have hzI : ¬ (1000 : Int) < (s.size : Int) := by omega
 have H_h1 := hid h1
 clear h1
 go_enter Tryz.func36, Tryz.ntmps36
 go_wp2_with (first
   | (go_at_call 74; (with_reducible refine (H_h1.out _).mono ?_); rintro e w9 ⟨rfl, rfl⟩)
   | fail)
 go_ret2
 exact ⟨rfl, Below.refl _ _⟩
theorem rp_inf_m (s B : ByteArray)  (w : World) (hz : s.size ≤ 1000) (h1 : ∀ W, Calls Tryz.prog 74 #[.string s, .string ⟨#[45]⟩] W fun r w' => r = .returned (.tuple #[.string B, .bool true]) ∧ W = w') (qn : (B.toList == [110, 97, 110]) = false) (qi : (B.toList == [105, 110, 102]) = true) : RPa s (fIN + fSG) 0 w := by
 unfold RPa
 have hzI : ¬ (1000 : Int) < (s.size : Int) := by omega
 obtain ⟨f1, f2, f3, f4, f5⟩ := nn_le (Nat.le_refl fIN)
 have p := fun W => pat_nn f4 W
 have hng := fun W => run_neg fIN f2 f1 W
 rw [f3] at hng
 have H_h1 := hid h1
 have H_p := hid p
 clear h1 p
 go_enter Tryz.func36, Tryz.ntmps36
 go_wp2_with (first
   | (go_at_call 74; (with_reducible refine (H_h1.out _).mono ?_); rintro e w9 ⟨rfl, rfl⟩)
   | (go_at_call 77; (with_reducible refine (inf_one _).mono ?_); rintro e w9 ⟨rfl, rfl⟩)
   | (go_at_call 61; (with_reducible refine (H_p.out _).mono ?_); rintro e w9 ⟨rfl, rfl⟩)
   | fail)
 go_ret2
 exact ⟨rfl, Below.refl _ _⟩
theorem rp_num_m (s B : ByteArray) (F : Nat) (w : World) (hF : F ≤ fIN) (hz : s.size ≤ 1000) (h1 : ∀ W, Calls Tryz.prog 74 #[.string s, .string ⟨#[45]⟩] W fun r w' => r = .returned (.tuple #[.string B, .bool true]) ∧ W = w') (qn : (B.toList == [110, 97, 110]) = false) (qi : (B.toList == [105, 110, 102]) = false) (h2 : ∀ W, Calls Tryz.prog 78 #[.string B] W fun r w' => r = .returned (.bool true) ∧ W = w') (h3 : Calls Tryz.prog 79 #[.string B, .int .i64 64] w fun r w' => (∃ v, r = .returned (.tuple #[.float .f64 F, v])) ∧ Below w.heap.size w w') : RPa s (F + fSG) 0 w := by
 unfold RPa
 have hzI : ¬ (1000 : Int) < (s.size : Int) := by omega
 obtain ⟨f1, f2, f3, f4, f5⟩ := nn_le hF
 have p := fun W => pat_nn f4 W
 have hng := fun W => run_neg F f2 f1 W
 rw [f3] at hng
 generalize F + fSG = G at p hng f4 f5 ⊢
 have H_h1 := hid h1
 have H_h2 := hid h2
 have H_h3 := hid h3
 have H_p := hid p
 clear h1 h2 h3 p
 go_enter Tryz.func36, Tryz.ntmps36
 go_wp2_with (first
   | (go_at_call 74; (with_reducible refine (H_h1.out _).mono ?_); rintro e w9 ⟨rfl, rfl⟩)
   | (go_at_call 78; (with_reducible refine (H_h2.out _).mono ?_); rintro e w9 ⟨rfl, rfl⟩)
   | (go_at_call 79; (with_reducible refine H_h3.out.mono ?_); rintro e w4 ⟨⟨v4, rfl⟩, hb4⟩; have HB4 := hid hb4; clear hb4)
   | (go_at_call 61; (with_reducible refine (H_p.out _).mono ?_); rintro e w9 ⟨rfl, rfl⟩)
   | fail)
 go_ret2
 exact ⟨rfl, HB4.out⟩
theorem rp_bad_m (s B : ByteArray)  (w : World) (hz : s.size ≤ 1000) (h1 : ∀ W, Calls Tryz.prog 74 #[.string s, .string ⟨#[45]⟩] W fun r w' => r = .returned (.tuple #[.string B, .bool true]) ∧ W = w') (qn : (B.toList == [110, 97, 110]) = false) (qi : (B.toList == [105, 110, 102]) = false) (h2 : ∀ W, Calls Tryz.prog 78 #[.string B] W fun r w' => r = .returned (.bool false) ∧ W = w') : RPa s 0 4 w := by
 unfold RPa
 have hzI : ¬ (1000 : Int) < (s.size : Int) := by omega
 have H_h1 := hid h1
 have H_h2 := hid h2
 clear h1 h2
 go_enter Tryz.func36, Tryz.ntmps36
 go_wp2_with (first
   | (go_at_call 74; (with_reducible refine (H_h1.out _).mono ?_); rintro e w9 ⟨rfl, rfl⟩)
   | (go_at_call 78; (with_reducible refine (H_h2.out _).mono ?_); rintro e w9 ⟨rfl, rfl⟩)
   | fail)
 go_ret2
 exact ⟨rfl, Below.refl _ _⟩
theorem dp_long (s B : ByteArray)  (w : World) (hz : ¬ s.size ≤ 1000) : DPa s 0 2 w := by
 unfold DPa
 have hzI : (1000 : Int) < (s.size : Int) := by omega
 go_enter Tryz.func45, Tryz.ntmps45
 go_wp2_with fail
 go_ret2
 exact ⟨rfl, Below.refl _ _⟩
theorem f64_plus {F : Nat} (h : F ≤ fIN) : IntKind.u64.wrap ((F : Int) + 9223372036854775808) = ((F + fSG : Nat) : Int) := by
 have e1 : fSG = 9223372036854775808 := rfl
 have e2 : fIN = 9218868437227405312 := rfl
 rw [IntWalk.u64_in _ (by omega)]; omega
theorem f64_zero {F : Nat} (h : F ≤ fIN) : IntKind.u64.wrap ((F : Int) + 0) = (F : Int) := by
 have e2 : fIN = 9218868437227405312 := rfl
 rw [IntWalk.u64_in _ (by omega)]; omega
theorem dp_bad_z (s B : ByteArray)  (w : World) (h0 : s.size = 0) (hz : s.size ≤ 1000) (qi : (s.toList == [105, 110, 102]) = false) (qn : (s.toList == [110, 97, 110]) = false) (h2 : ∀ W, Calls Tryz.prog 85 #[.string s, .int .i64 0] W fun r w' => r = .returned (.bool false) ∧ W = w') : DPa s 0 4 w := by
 unfold DPa
 have hzI : ¬ (1000 : Int) < (s.size : Int) := by omega
 have h0I : (s.size : Int) = 0 := by rw [h0]; rfl
 have hx : s.extract 0 s.size = s := by simp
 have H_h2 := hid h2
 clear h2
 go_enter Tryz.func45, Tryz.ntmps45
 go_wp2_with (first
   | (go_at_call 85; (with_reducible refine (H_h2.out _).mono ?_); rintro e w9 ⟨rfl, rfl⟩)
   | fail)
 go_ret2
 exact ⟨rfl, Below.refl _ _⟩
theorem dp_inf_d (s B : ByteArray)  (w : World) (h0 : 0 < s.size) (h45 : (bt s 0 == 45) = false) (hz : s.size ≤ 1000) (qi : (s.toList == [105, 110, 102]) = true) : DPa s fIN 0 w := by
 unfold DPa
 have hzI : ¬ (1000 : Int) < (s.size : Int) := by omega
 have hb := get_bt s
 have h0I : (0 : Int) < (s.size : Int) := by omega
 have hx : s.extract 0 s.size = s := by simp
 have hwf : IntKind.u64.wrap (9218868437227405312 + 0) = ((fIN : Nat) : Int) := by rfl
 go_enter Tryz.func45, Tryz.ntmps45
 go_wp2_with fail
 go_ret2
 exact ⟨rfl, Below.refl _ _⟩
theorem dp_nan_d (s B : ByteArray)  (w : World) (h0 : 0 < s.size) (h45 : (bt s 0 == 45) = false) (hz : s.size ≤ 1000) (qi : (s.toList == [105, 110, 102]) = false) (qn : (s.toList == [110, 97, 110]) = true) : DPa s 9221120237041090560 0 w := by
 unfold DPa
 have hzI : ¬ (1000 : Int) < (s.size : Int) := by omega
 have hb := get_bt s
 have h0I : (0 : Int) < (s.size : Int) := by omega
 have hx : s.extract 0 s.size = s := by simp
 go_enter Tryz.func45, Tryz.ntmps45
 go_wp2_with fail
 go_ret2
 exact ⟨rfl, Below.refl _ _⟩
theorem dp_bad_d (s B : ByteArray)  (w : World) (h0 : 0 < s.size) (h45 : (bt s 0 == 45) = false) (hz : s.size ≤ 1000) (qi : (s.toList == [105, 110, 102]) = false) (qn : (s.toList == [110, 97, 110]) = false) (h2 : ∀ W, Calls Tryz.prog 85 #[.string s, .int .i64 0] W fun r w' => r = .returned (.bool false) ∧ W = w') : DPa s 0 4 w := by
 unfold DPa
 have hzI : ¬ (1000 : Int) < (s.size : Int) := by omega
 have hb := get_bt s
 have h0I : (0 : Int) < (s.size : Int) := by omega
 have hx : s.extract 0 s.size = s := by simp
 have H_h2 := hid h2
 clear h2
 go_enter Tryz.func45, Tryz.ntmps45
 go_wp2_with (first
   | (go_at_call 85; (with_reducible refine (H_h2.out _).mono ?_); rintro e w9 ⟨rfl, rfl⟩)
   | fail)
 go_ret2
 exact ⟨rfl, Below.refl _ _⟩
theorem dp_num_d (s B : ByteArray) (F : Nat) (w : World) (hF : F ≤ fIN) (h0 : 0 < s.size) (h45 : (bt s 0 == 45) = false) (hz : s.size ≤ 1000) (qi : (s.toList == [105, 110, 102]) = false) (qn : (s.toList == [110, 97, 110]) = false) (h2 : ∀ W, Calls Tryz.prog 85 #[.string s, .int .i64 0] W fun r w' => r = .returned (.bool true) ∧ W = w') (h3 : Calls Tryz.prog 79 #[.string s, .int .i64 64] w fun r w' => (∃ v, r = .returned (.tuple #[.float .f64 F, v])) ∧ Below w.heap.size w w') : DPa s F 0 w := by
 unfold DPa
 have hzI : ¬ (1000 : Int) < (s.size : Int) := by omega
 have hb := get_bt s
 have h0I : (0 : Int) < (s.size : Int) := by omega
 have hx : s.extract 0 s.size = s := by simp
 have hwf : IntKind.u64.wrap (F : Int) = (F : Int) := by have := f64_zero hF; rw [Int.add_zero] at this; exact this
 have H_h2 := hid h2
 have H_h3 := hid h3
 clear h2 h3
 go_enter Tryz.func45, Tryz.ntmps45
 go_wp2_with (first
   | (go_at_call 85; (with_reducible refine (H_h2.out _).mono ?_); rintro e w9 ⟨rfl, rfl⟩)
   | (go_at_call 79; (with_reducible refine H_h3.out.mono ?_); rintro e w4 ⟨⟨v4, rfl⟩, hb4⟩; have HB4 := hid hb4; clear hb4)
   | fail)
 go_ret2
 exact ⟨rfl, HB4.out⟩
theorem dp_inf_m (s B : ByteArray)  (w : World) (h0 : 0 < s.size) (h45 : (bt s 0 == 45) = true) (hx : s.extract 1 s.size = B) (hz : s.size ≤ 1000) (qi : (B.toList == [105, 110, 102]) = true) : DPa s (fIN + fSG) 0 w := by
 unfold DPa
 have hzI : ¬ (1000 : Int) < (s.size : Int) := by omega
 have hb := get_bt s
 have h0I : (0 : Int) < (s.size : Int) := by omega
 have h1I : (1 : Int) ≤ (s.size : Int) := by omega
 have hwf : IntKind.u64.wrap (9218868437227405312 + 9223372036854775808) = (((fIN + fSG) : Nat) : Int) := by rfl
 go_enter Tryz.func45, Tryz.ntmps45
 go_wp2_with fail
 go_ret2
 exact ⟨rfl, Below.refl _ _⟩
theorem dp_nan_m (s B : ByteArray)  (w : World) (h0 : 0 < s.size) (h45 : (bt s 0 == 45) = true) (hx : s.extract 1 s.size = B) (hz : s.size ≤ 1000) (qi : (B.toList == [105, 110, 102]) = false) (qn : (B.toList == [110, 97, 110]) = true) : DPa s 9221120237041090560 0 w := by
 unfold DPa
 have hzI : ¬ (1000 : Int) < (s.size : Int) := by omega
 have hb := get_bt s
 have h0I : (0 : Int) < (s.size : Int) := by omega
 have h1I : (1 : Int) ≤ (s.size : Int) := by omega
 go_enter Tryz.func45, Tryz.ntmps45
 go_wp2_with fail
 go_ret2
 exact ⟨rfl, Below.refl _ _⟩
theorem dp_bad_m (s B : ByteArray)  (w : World) (h0 : 0 < s.size) (h45 : (bt s 0 == 45) = true) (hx : s.extract 1 s.size = B) (hz : s.size ≤ 1000) (qi : (B.toList == [105, 110, 102]) = false) (qn : (B.toList == [110, 97, 110]) = false) (h2 : ∀ W, Calls Tryz.prog 85 #[.string s, .int .i64 1] W fun r w' => r = .returned (.bool false) ∧ W = w') : DPa s 0 4 w := by
 unfold DPa
 have hzI : ¬ (1000 : Int) < (s.size : Int) := by omega
 have hb := get_bt s
 have h0I : (0 : Int) < (s.size : Int) := by omega
 have h1I : (1 : Int) ≤ (s.size : Int) := by omega
 have H_h2 := hid h2
 clear h2
 go_enter Tryz.func45, Tryz.ntmps45
 go_wp2_with (first
   | (go_at_call 85; (with_reducible refine (H_h2.out _).mono ?_); rintro e w9 ⟨rfl, rfl⟩)
   | fail)
 go_ret2
 exact ⟨rfl, Below.refl _ _⟩
theorem dp_num_m (s B : ByteArray) (F : Nat) (w : World) (hF : F ≤ fIN) (h0 : 0 < s.size) (h45 : (bt s 0 == 45) = true) (hx : s.extract 1 s.size = B) (hz : s.size ≤ 1000) (qi : (B.toList == [105, 110, 102]) = false) (qn : (B.toList == [110, 97, 110]) = false) (h2 : ∀ W, Calls Tryz.prog 85 #[.string s, .int .i64 1] W fun r w' => r = .returned (.bool true) ∧ W = w') (h3 : Calls Tryz.prog 79 #[.string B, .int .i64 64] w fun r w' => (∃ v, r = .returned (.tuple #[.float .f64 F, v])) ∧ Below w.heap.size w w') : DPa s (F + fSG) 0 w := by
 unfold DPa
 have hzI : ¬ (1000 : Int) < (s.size : Int) := by omega
 have hb := get_bt s
 have h0I : (0 : Int) < (s.size : Int) := by omega
 have h1I : (1 : Int) ≤ (s.size : Int) := by omega
 have hwf := f64_plus hF
 generalize F + fSG = G at hwf ⊢
 have H_h2 := hid h2
 have H_h3 := hid h3
 clear h2 h3
 go_enter Tryz.func45, Tryz.ntmps45
 go_wp2_with (first
   | (go_at_call 85; (with_reducible refine (H_h2.out _).mono ?_); rintro e w9 ⟨rfl, rfl⟩)
   | (go_at_call 79; (with_reducible refine H_h3.out.mono ?_); rintro e w4 ⟨⟨v4, rfl⟩, hb4⟩; have HB4 := hid hb4; clear hb4)
   | fail)
 go_ret2
 exact ⟨rfl, HB4.out⟩
end
section
def PK (b : Nat) (e : Int) : Prop := (e = 0 ∧ patB b = b ∧ b < 18446744073709551616) ∨ (b = 0 ∧ (e = 2 ∨ e = 4))
theorem pk_bad : PK 0 4 := .inr ⟨rfl, .inr rfl⟩
theorem pk_long : PK 0 2 := .inr ⟨rfl, .inl rfl⟩
theorem pk_nan : PK 9221120237041090560 0 := .inl ⟨rfl, by decide +kernel, by decide⟩
theorem pk_p {F : Nat} (h : F ≤ fIN) : PK F 0 := by
 refine .inl ⟨rfl, ?_, ?_⟩
 · have e : nanB F = false := by unfold nanB; exact decide_eq_false (by simp only [fIN, fSG] at *; omega)
   unfold patB; rw [e, if_neg (by decide)]
 · simp only [fIN] at h; omega
theorem pk_m {F : Nat} (h : F ≤ fIN) : PK (F + fSG) 0 := by
 refine .inl ⟨rfl, ?_, ?_⟩
 · have e : nanB (F + fSG) = false := by unfold nanB; exact decide_eq_false (by simp only [fIN, fSG] at *; omega)
   unfold patB; rw [e, if_neg (by decide)]
 · simp only [fIN, fSG] at *; omega
theorem parse_bothX {hiT loT T : Nat → Nat} (hf : TBF hiT loT T) (tv : TypeId) (yv : Value) (s : ByteArray) : ∃ b : Nat, ∃ e : Int, PK b e ∧ ∀ w, PFT hiT loT T tv yv w w.heap.size → RPa s b e w ∧ DPa s b e w := by
 by_cases hz : s.size ≤ 1000
 · have hcp : ∀ (o : Nat) (ng : Bool), (⟨(Lib.trimPrefix s.data.toList [45]).toArray⟩ : ByteArray) = sb s o ∧ Lib.hasPrefix s.data.toList [45] = ng → ∀ W, Calls Tryz.prog 74 #[.string s, .string ⟨#[45]⟩] W fun r w' => r = .returned (.tuple #[.string (sb s o), .bool ng]) ∧ W = w' := fun o ng h W => by
     have := cut_call s 45 0 ng (sb s o) (by rw [sb_zero]; exact h) W
     rw [sb_zero] at this
     exact this
   by_cases h0 : s.size = 0
   · have h1 := cut_no s 45 (k := 0) (fun h => by omega)
     rw [sb_zero] at h1
     have hc := hcp 0 false (by rw [sb_zero]; exact h1)
     obtain ⟨b, hb1, hb2, hb3⟩ := num_both s 0 (by omega) hz
     rw [sb_zero] at hc hb1 hb3
     have hse : s = ⟨#[]⟩ := by have := sb_nil s (k := 0) (by omega); rw [sb_zero] at this; exact this
     have qn : (s.toList == [110, 97, 110]) = false := by rw [hse]; simp
     have qi : (s.toList == [105, 110, 102]) = false := by rw [hse]; simp
     cases b with
     | true =>
       obtain ⟨a, p, q, hn⟩ := hb3 rfl
       have := hn.a1; have := hn.ap; have := hn.pz; omega
     | false => exact ⟨0, 4, pk_bad, fun w hw => ⟨rp_bad_p s s w hz hc qn qi hb1, dp_bad_z s s w h0 hz qi qn hb2⟩⟩
   · have h0' : 0 < s.size := by omega
     by_cases h45 : bt s 0 = 45
     · have h1 := cut_yes s 45 (k := 0) h0' h45
       rw [sb_zero] at h1
       have hc := hcp 1 true h1
       obtain ⟨b, hb1, hb2, hb3⟩ := num_both s 1 (by omega) hz
       have hx : s.extract 1 s.size = sb s 1 := sb_ext s 1 (by omega)
       cases qn : ((sb s 1).toList == [110, 97, 110]) with
       | true =>
         have qi : ((sb s 1).toList == [105, 110, 102]) = false := by rw [eq_of_beq qn]; rfl
         exact ⟨_, 0, pk_nan, fun w hw => ⟨rp_nan_m s _ w hz hc qn, dp_nan_m s _ w h0' (beT h45) hx hz qi qn⟩⟩
       | false =>
         cases qi : ((sb s 1).toList == [105, 110, 102]) with
         | true => exact ⟨_, 0, pk_m (Nat.le_refl _), fun w hw => ⟨rp_inf_m s _ w hz hc qn qi, dp_inf_m s _ w h0' (beT h45) hx hz qi⟩⟩
         | false =>
           cases b with
           | true =>
             obtain ⟨a, p, q, hn⟩ := hb3 rfl
             obtain ⟨F, hF, hP⟩ := pfl_any hf tv yv _ a p q hn
             exact ⟨F + fSG, 0, pk_m hF, fun w hw => ⟨rp_num_m s _ F w hF hz hc qn qi hb1 (hP w hw), dp_num_m s _ F w hF h0' (beT h45) hx hz qi qn hb2 (hP w hw)⟩⟩
           | false => exact ⟨0, 4, pk_bad, fun w hw => ⟨rp_bad_m s _ w hz hc qn qi hb1, dp_bad_m s _ w h0' (beT h45) hx hz qi qn hb2⟩⟩
     · have h1 := cut_no s 45 (k := 0) (fun h => h45 h.2)
       rw [sb_zero] at h1
       have hc := hcp 0 false (by rw [sb_zero]; exact h1)
       obtain ⟨b, hb1, hb2, hb3⟩ := num_both s 0 (by omega) hz
       rw [sb_zero] at hc hb1 hb3
       cases qn : (s.toList == [110, 97, 110]) with
       | true =>
         have qi : (s.toList == [105, 110, 102]) = false := by rw [eq_of_beq qn]; rfl
         exact ⟨_, 0, pk_nan, fun w hw => ⟨rp_nan_p s _ w hz hc qn, dp_nan_d s s w h0' (beF h45) hz qi qn⟩⟩
       | false =>
         cases qi : (s.toList == [105, 110, 102]) with
         | true => exact ⟨_, 0, pk_p (Nat.le_refl _), fun w hw => ⟨rp_inf_p s _ w hz hc qn qi, dp_inf_d s s w h0' (beF h45) hz qi⟩⟩
         | false =>
           cases b with
           | true =>
             obtain ⟨a, p, q, hn⟩ := hb3 rfl
             obtain ⟨F, hF, hP⟩ := pfl_any hf tv yv _ a p q hn
             exact ⟨F, 0, pk_p hF, fun w hw => ⟨rp_num_p s _ F w hF hz hc qn qi hb1 (hP w hw), dp_num_d s s F w hF h0' (beF h45) hz qi qn hb2 (hP w hw)⟩⟩
           | false => exact ⟨0, 4, pk_bad, fun w hw => ⟨rp_bad_p s _ w hz hc qn qi hb1, dp_bad_d s s w h0' (beF h45) hz qi qn hb2⟩⟩
 · exact ⟨0, 2, pk_long, fun w hw => ⟨rp_long s s w hz, dp_long s s w hz⟩⟩
end
end Go.Proofs.YtlhfemgimieooaaGreatDoor
