/- Layer 2, the document's answer: screeref02.Of: the digits of a number in form. Layer 2, the document's answer: screeref02.To: the number of a row of decimal digits. Layer 2, the document's answer: Turn, Plus, Cmp, Fits. Layer 2, the document's answer: Plus. -/
import Derived.Test.YtpebnofjcodikaaGreatDoorPGWc
import Derived.Deep.RegionHeld3
namespace Go.Proofs.YtpebnofjcodikaaGreatDoor
section
open Go.ChangeShapes Go.WideShapes Go.ChangeAt Go.RowKit
set_option linter.unusedVariables false
set_option linter.unusedSimpArgs false
theorem Sgn.rebase {b b' : Int} (hb : 0 < b) (hb' : 0 < b') {neg : Bool} {ws ds : List Int} {z : Int} (h : Sgn b neg ws z) (hc : Canon b' ds) (hv : val b' ds = val b ws) : Sgn b' neg ds z := by
  refine ⟨hc, fun e => ?_, by rw [hv]; exact h.eq⟩
  have h1 := h.canon.pos hb (h.sign e)
  rw [← hv] at h1
  cases ds with
  | nil => simp [val] at h1
  | cons d r => simp
/-- A number of the document's. -/
def NumPost (W : World) (z : Int) (e : Ending) (w' : World) : Prop :=
  ∃ neg u ds, e = .returned (.agg #[.bool neg, u]) ∧ Rb w' u ds ∧ Sgn 10 neg ds z ∧ Below W.heap.size W w'
structure OfIn (xs os : List Int) (m k : Nat) (l : Int) : Prop where
  len : os.length = 18 * m + k
  dig : Dig 10 os
  sum : val 10 os + 10 ^ (18 * m + k) * l = val B18 (xs.take (m + 1))
  lo : 0 ≤ l
  hi : l * 10 ^ k < B18
structure OfOut (xs os : List Int) (m : Nat) : Prop where
  len : os.length = 18 * m
  dig : Dig 10 os
  sum : val 10 os = val B18 (xs.take m)
theorem pow18 (m : Nat) : (10 : Int) ^ (18 * m) = B18 ^ m := by
  have e : B18 = 10 ^ 18 := by decide
  rw [e, ← Int.pow_mul]
theorem OfOut.enter {xs os : List Int} {m : Nat} (h : OfOut xs os m) (hx : Dig B18 xs) : OfIn xs os m 0 (xs.getD m 0) :=
  ⟨h.len, h.dig, by rw [Nat.add_zero, pow18, val_take', h.sum], (hx m).1, by simpa using (hx m).2⟩
theorem OfIn.lt {xs os : List Int} {m k : Nat} {l : Int} (h : OfIn xs os m k l) : l < 1000000000000000000 := by
  have h1 := h.hi
  have h2 := pow_pos' (by decide : (0 : Int) < 10) k
  have h3 : l * 1 ≤ l * 10 ^ k := Int.mul_le_mul_of_nonneg_left (by omega) h.lo
  rw [B18] at h1
  omega
theorem OfIn.step {xs os : List Int} {m k : Nat} {l : Int} (h : OfIn xs os m k l) : OfIn xs (os ++ [l % 10]) m (k + 1) (l / 10) := by
  have h0 := h.lo
  refine ⟨by rw [List.length_append, h.len]; simp; omega, h.dig.append (Dig.cons (by omega) (Dig.nil (by decide))), ?_, by omega, ?_⟩
  · rw [val_snoc, h.len, ← Nat.add_assoc, Int.pow_succ]
    have h1 := h.sum
    have h2 : l = l % 10 + 10 * (l / 10) := by omega
    have h3 : (10 : Int) ^ (18 * m + k) * l = 10 ^ (18 * m + k) * (l % 10 + 10 * (l / 10)) := by rw [← h2]
    grind
  · have h1 := h.hi
    have h2 := pow_pos' (by decide : (0 : Int) < 10) k
    rw [Int.pow_succ]
    have h3 : 10 * (l / 10) * 10 ^ k ≤ l * 10 ^ k := Int.mul_le_mul_of_nonneg_right (by omega) (by omega)
    have h4 : l / 10 * (10 ^ k * 10) = 10 * (l / 10) * 10 ^ k := by grind
    omega
theorem OfIn.leave {xs os : List Int} {m : Nat} {l : Int} (h : OfIn xs os m 18 l) : OfOut xs os (m + 1) := by
  have h1 := h.hi
  have h0 := h.lo
  have e : l = 0 := by
    have : (10 : Int) ^ 18 = 1000000000000000000 := by decide
    rw [this, B18] at h1
    omega
  subst e
  exact ⟨by rw [h.len]; omega, h.dig, by have := h.sum; simpa using this⟩
theorem OfOut.nil (xs : List Int) : OfOut xs [] 0 := ⟨rfl, Dig.nil (by decide), by simp [val]⟩
end
section
open Go.ChangeShapes Go.WideShapes Go.ChangeAt Go.RowKit
set_option linter.unusedVariables false
set_option linter.unusedSimpArgs false
/-- A piece of a row of digits. -/
def part (ds : List Int) (a j : Nat) : Int := val 10 ((ds.drop a).take j)
theorem part_zero (ds : List Int) (a : Nat) : part ds a 0 = 0 := by simp [part, val]
theorem part_step (ds : List Int) (a j : Nat) : part ds a (j + 1) = 10 * part ds (a + 1) j + ds.getD a 0 := by
  unfold part
  by_cases h : a < ds.length
  · rw [List.drop_eq_getElem_cons h, List.take_succ_cons]
    simp [val, List.getD_eq_getElem?_getD, h]; omega
  · rw [List.drop_eq_nil_of_le (by omega), List.drop_eq_nil_of_le (by omega), getD_len (by omega)]
    simp [val]
theorem part_lt {ds : List Int} (h : Dig 10 ds) (a j : Nat) : 0 ≤ part ds a j ∧ part ds a j < 10 ^ j := by
  have hd : Dig 10 ((ds.drop a).take j) := Dig.take (fun i => by rw [getD_dropD]; exact h _) (by decide) j
  refine ⟨val_nonneg (by decide) hd, Int.lt_of_lt_of_le (val_lt (by decide) hd) (pow_mono' (by decide) ?_)⟩
  rw [List.length_take]; exact Nat.min_le_left _ _
theorem part_low {ds : List Int} (h : Dig 10 ds) (a j : Nat) (hj : j < 18) : part ds a j < 100000000000000000 := by
  have h1 := (part_lt h a j).2
  have h2 := pow_mono' (by decide : (1 : Int) ≤ 10) (show j ≤ 17 by omega)
  have h3 : (10 : Int) ^ 17 = 100000000000000000 := by decide
  omega
theorem part_full {ds : List Int} (h : Dig 10 ds) (a : Nat) : part ds a 18 < 1000000000000000000 := by
  have h1 := (part_lt h a 18).2
  have h3 : (10 : Int) ^ 18 = 1000000000000000000 := by decide
  omega
theorem part_rest (ds : List Int) (a : Nat) : val 10 (ds.drop a) = part ds a 18 + B18 * val 10 (ds.drop (a + 18)) := by
  unfold part
  have e := List.take_append_drop 18 (ds.drop a)
  have h := val_append 10 ((ds.drop a).take 18) ((ds.drop a).drop 18)
  rw [e, List.drop_drop] at h
  rw [h, List.length_take]
  by_cases hl : 18 ≤ (ds.drop a).length
  · rw [Nat.min_eq_left hl]; rfl
  · have : ds.drop (a + 18) = [] := List.drop_eq_nil_of_le (by rw [List.length_drop] at hl; omega)
    rw [this]; simp [val]
structure ToState (ds os : List Int) (m : Nat) : Prop where
  len : os.length = m
  dig : Dig B18 os
  sum : val B18 os + B18 ^ m * val 10 (ds.drop (18 * m)) = val 10 ds
  last : 0 < m → ds.length ≤ 18 * m → os.getD (m - 1) 0 ≠ 0
theorem ToState.nil (ds : List Int) : ToState ds [] 0 := ⟨rfl, Dig.nil (by decide), by simp [val], fun h => absurd h (by omega)⟩
theorem ToState.step {ds os : List Int} {m : Nat} (h : ToState ds os m) (hc : Canon 10 ds) (hlt : 18 * m < ds.length) : ToState ds (os ++ [part ds (18 * m) 18]) (m + 1) := by
  have hp := part_lt hc.1 (18 * m) 18
  have hpf := part_full hc.1 (18 * m)
  refine ⟨by simp [h.len], h.dig.append (Dig.cons ⟨hp.1, by rw [B18]; exact hpf⟩ (Dig.nil (by decide))), ?_, fun _ hle => ?_⟩
  · rw [val_snoc, h.len, Int.pow_succ, show 18 * (m + 1) = 18 * m + 18 by omega]
    have h1 := h.sum
    rw [part_rest ds (18 * m)] at h1
    grind
  · rw [show m + 1 - 1 = m by omega, List.getD_eq_getElem?_getD, List.getElem?_append_right (by rw [h.len]; exact Nat.le_refl _), h.len]
    simp only [Nat.sub_self, List.getElem?_cons_zero, Option.getD_some]
    have hr := part_rest ds (18 * m)
    have hn : ds.drop (18 * m + 18) = [] := List.drop_eq_nil_of_le (by omega)
    rw [hn] at hr
    simp [val] at hr
    have hcd : Canon 10 (ds.drop (18 * m)) := ⟨fun i => by rw [getD_dropD]; exact hc.1 _, fun hl => by
      rw [getD_dropD, List.length_drop]
      have := hc.2 (by omega)
      rw [show 18 * m + (ds.length - 18 * m - 1) = ds.length - 1 by omega]
      exact this⟩
    have := hcd.pos (by decide) (by rw [List.length_drop]; omega)
    omega
theorem ToState.finish {ds os : List Int} {m : Nat} (h : ToState ds os m) (hle : ds.length ≤ 18 * m) : Canon B18 os ∧ val B18 os = val 10 ds := by
  refine ⟨⟨h.dig, fun hl => ?_⟩, ?_⟩
  · rw [h.len] at hl ⊢
    exact h.last hl hle
  · have := h.sum
    rw [List.drop_eq_nil_of_le hle] at this
    simpa [val] using this
structure TB (w wr : World) (B S : Nat) (n1 : Bool) (u1 v : Value) : Prop where
  x0 : wr.cell? ⟨B, 0, none⟩ = some (.bool n1)
  x1 : wr.cell? ⟨B, 1, none⟩ = some u1
  r0 : wr.cell? ⟨B + 1, 0, none⟩ = some (.bool false)
  r1 : wr.cell? ⟨B + 1, 1, none⟩ = some (.slice none 0 0)
  f0 : wr.frozen? ⟨B + 1, 0, none⟩ = false
  f1 : wr.frozen? ⟨B + 1, 1, none⟩ = false
  c0 : wr.cell? ⟨B + 1 + 1, 0, none⟩ = some (.bool false)
  c1 : wr.cell? ⟨B + 1 + 1, 1, none⟩ = some v
  g0 : wr.frozen? ⟨B + 1 + 1, 0, none⟩ = false
  g1 : wr.frozen? ⟨B + 1 + 1, 1, none⟩ = false
  le : S ≤ wr.heap.size
  below : Below B w wr
theorem TB.keep {w wr w' : World} {B S : Nat} {n1 : Bool} {u1 v : Value} (h : TB w wr B S n1 u1 v) (hS : B + 1 + 1 < S) (hb : Below S wr w') : TB w w' B S n1 u1 v := by
  have c : ∀ b o, b < S → w'.cell? ⟨b, o, none⟩ = wr.cell? ⟨b, o, none⟩ := fun b o h => hb.cell (p := ⟨b, o, none⟩) h
  have f : ∀ b o, b < S → w'.frozen? ⟨b, o, none⟩ = wr.frozen? ⟨b, o, none⟩ := fun b o h => hb.frozen (p := ⟨b, o, none⟩) h
  exact ⟨(c _ _ (by omega)).trans h.x0, (c _ _ (by omega)).trans h.x1, (c _ _ (by omega)).trans h.r0, (c _ _ (by omega)).trans h.r1, (f _ _ (by omega)).trans h.f0, (f _ _ (by omega)).trans h.f1,
    (c _ _ (by omega)).trans h.c0, (c _ _ (by omega)).trans h.c1, (f _ _ (by omega)).trans h.g0, (f _ _ (by omega)).trans h.g1, Nat.le_trans h.le hb.size, h.below.trans (hb.mono (by omega))⟩
theorem TB.store {w wr : World} {B S : Nat} {n1 : Bool} {u1 v : Value} (h : TB w wr B S n1 u1 v) (v' : Value) : TB w (wr.setCell ⟨B + 1 + 1, 1, none⟩ v') B S n1 u1 v' := by
  have c : ∀ b o, b ≠ B + 1 + 1 → (wr.setCell ⟨B + 1 + 1, 1, none⟩ v').cell? ⟨b, o, none⟩ = wr.cell? ⟨b, o, none⟩ := fun b o e => World.cell?_of_block (a := ⟨b, o, none⟩) (Below.heap_setCell _ _ _ _ e)
  have f : ∀ b o, b ≠ B + 1 + 1 → (wr.setCell ⟨B + 1 + 1, 1, none⟩ v').frozen? ⟨b, o, none⟩ = wr.frozen? ⟨b, o, none⟩ := fun b o e => World.frozen?_of_block (a := ⟨b, o, none⟩) (Below.heap_setCell _ _ _ _ e)
  have n0 : (⟨B + 1 + 1, 1, none⟩ : Addr) ≠ ⟨B + 1 + 1, 0, none⟩ := by simp
  have e0 : (wr.setCell ⟨B + 1 + 1, 1, none⟩ v').cell? ⟨B + 1 + 1, 0, none⟩ = some (.bool false) := (World.cell?_setCell_other _ _ _ _ n0).trans h.c0
  have e1 : (wr.setCell ⟨B + 1 + 1, 1, none⟩ v').cell? ⟨B + 1 + 1, 1, none⟩ = some v' := World.cell?_setCell_same _ _ _ h.c1
  have g0 : (wr.setCell ⟨B + 1 + 1, 1, none⟩ v').frozen? ⟨B + 1 + 1, 0, none⟩ = false := by rw [World.frozen?_setCell]; exact h.g0
  have g1 : (wr.setCell ⟨B + 1 + 1, 1, none⟩ v').frozen? ⟨B + 1 + 1, 1, none⟩ = false := by rw [World.frozen?_setCell]; exact h.g1
  have le : S ≤ (wr.setCell ⟨B + 1 + 1, 1, none⟩ v').heap.size := by rw [World.size_setCell]; exact h.le
  have bl : Below B w (wr.setCell ⟨B + 1 + 1, 1, none⟩ v') := h.below.setCell (show B ≤ B + 1 + 1 by omega) _
  exact ⟨(c _ _ (by omega)).trans h.x0, (c _ _ (by omega)).trans h.x1, (c _ _ (by omega)).trans h.r0, (c _ _ (by omega)).trans h.r1, (f _ _ (by omega)).trans h.f0, (f _ _ (by omega)).trans h.f1, e0, e1, g0, g1, le, bl⟩
theorem OW.setBox {k : IntKind} {T : TypeId} {w : World} {ws : List Int} {S B : Nat} {v : Value} (h : OW k T w S v ws) (hB : B < S) {i : Nat} (x : Value) : OW k T (w.setCell ⟨B, i, none⟩ x) S v ws := by
  obtain ⟨h1, h2⟩ := h
  refine ⟨h1, ?_⟩
  rcases h2 with h2 | ⟨g, cap, cur, hv, hg, hh, r⟩
  · exact .inl h2
  · exact .inr ⟨g, cap, cur, hv, hg, (Below.heap_setCell _ _ _ _ (by simp; omega)).trans hh, r⟩
set_option maxRecDepth 100000 in
set_option maxHeartbeats 1000000 in
theorem to_any (n1 : Bool) (u1 : Value) (ds : List Int) (z1 : Int) (w : World) (hr1 : Rb w u1 ds) (hs1 : Sgn 10 n1 ds z1) (hl1 : ds.length ≤ 100000) :
    Calls Tryz.prog 35 #[.agg #[.bool n1, u1]] w (BigPost w w.heap.size z1) := by
  obtain ⟨i0, hi, hz0, hz1, hz2⟩ := info_parts infoU64
  obtain ⟨p1, c1, rfl, _, _, hp1⟩ := rb_form hr1
  have HP1 := Lib.hid hp1
  have HS1 := Lib.hid hs1
  clear hr1 hs1 hp1
  go_enter Tryz.func35, Tryz.ntmps35
  go_wp2_with fail
  generalize hw2 : World.alloc (World.alloc (World.alloc w _) _) _ = w2
  have hbx : TB w w2 w.heap.size w2.heap.size n1 (.slice p1 ds.length c1) (.slice none 0 0) := by
    rw [← hw2]
    refine ⟨alloc_cell (alloc_cell (by simp) _) _, alloc_cell (alloc_cell (by simp) _) _, alloc_cell (by simp) _, alloc_cell (by simp) _, alloc_frozen (by simp) (by simp) _, alloc_frozen (by simp) (by simp) _, third_cell _ _ _ _ _ 0, third_cell _ _ _ _ _ 1, third_fr _ _ _ _ _ 0, third_fr _ _ _ _ _ 1, Nat.le_refl _, (((Below.refl _ _).alloc (Nat.le_refl _) _).alloc (by simp) _).alloc (by simp; omega) _⟩
  have hsz : w.heap.size + 1 + 1 < w2.heap.size := by rw [← hw2]; simp
  clear hw2
  have HPT := Lib.hid (part_step ds)
  go_loopw [4] (fun s wr => ∃ (i m : Nat) (os : List Int) (v : Value), s = .int .i64 (i : Int) ∧ i ≤ 100050 ∧ Hid (i = 18 * m) ∧ ToState ds os m ∧ OW .u64 U64 wr w2.heap.size v os ∧ TB w wr w.heap.size w2.heap.size n1 (.slice p1 ds.length c1) v) (fun s _ => 100100 - (intOf s).toNat)
  case atStart => exact ⟨0, 0, [], _, by go_num, by omega, rfl, ToState.nil _, OW.nil _ _, hbx⟩
  case round =>
    obtain ⟨i, m, os, v, rfl, hm, HI, hS, hO, hT⟩ := hrel
    have HS := Lib.hid hS
    have HO := Lib.hid hO
    have HT := Lib.hid hT
    have hol := hS.len
    have q0 := hT.x0
    have q1 := hT.x1
    have q2 := hT.c0
    have q3 := hT.c1
    have q4 := hT.g0
    have q5 := hT.g1
    have hle := hT.le
    have HOL := Lib.hid hol
    have hm2 : m ≤ 5558 := by have := HI.out; omega
    clear hS hO hT hol
    by_cases hlt : i < ds.length
    · have hltz : (i : Int) < (ds.length : Int) := by omega
      obtain ⟨b1, o1, rfl, hxx⟩ := HP1.out (by omega)
      have HXX := Lib.hid hxx
      clear hxx
      go_wp2_with fail
      obtain ⟨wo, rfl⟩ : ∃ wo : World, wo = wr := ⟨_, rfl⟩
      go_loop [5, 6] (fun lv s => ∃ (a e : Nat) (l : Int), s = .int .i64 ((a : Int) - 1) ∧ lv = .int .u64 l ∧ Hid (a = i + e) ∧ i ≤ a ∧ a ≤ i + 18 ∧ 0 ≤ l ∧ l < 1000000000000000000 ∧ Hid (l = part ds a (18 - e))) (fun _ s => (intOf s + 1 - i).toNat)
      case atStart => exact ⟨i + 18, 18, 0, by go_num, rfl, rfl, by omega, by omega, by omega, by omega, (part_zero _ _).symm⟩
      case round =>
        obtain ⟨a, e, l, rfl, rfl, HA, ha1, ha2, hl0, hl1, HL⟩ := hrel
        by_cases he : i < a
        · obtain ⟨d, rfl⟩ : ∃ d, a = d + 1 := ⟨a - 1, by omega⟩
          have hk : ((d + 1 : Nat) : Int) - 1 = (d : Int) := by omega
          rw [hk]
          have hdi : (i : Int) ≤ (d : Int) := by omega
          have hj : 18 - (e - 1) = 18 - e + 1 := by have := HA.out; omega
          have hlow : l < 100000000000000000 := by
            rw [HL.out]
            exact part_low HS1.out.canon.1 _ _ (by have := HA.out; omega)
          have HST := Lib.hid (HPT.out d (18 - e))
          have HJ := Lib.hid hj
          have HD := Lib.hid (HS1.out.canon.1 d)
          clear hk hj
          by_cases hdl : d < ds.length
          · have hdlz : (d : Int) < (ds.length : Int) := by omega
            have hcx := below_cell HT.out.below (HXX.out d hdl)
            have hdg := HD.out
            generalize ds.getD d 0 = y at hcx hdg HST
            go_wp2_with fail
            go_round
            case rel => exact ⟨d, e - 1, l * 10 + y, rfl, rfl, (by have := HA.out; show d = i + (e - 1); omega), by omega, by omega, by omega, by omega, by
              show l * 10 + y = _
              rw [HJ.out, HST.out, HL.out]; omega⟩
            case measure => simp [intOf]; omega
          · have hdlz : ¬ (d : Int) < (ds.length : Int) := by omega
            have hy : ds.getD d 0 = 0 := getD_len (by omega)
            rw [hy] at HST
            clear hy
            go_wp2_with fail
            go_round
            case rel => exact ⟨d, e - 1, l * 10, rfl, rfl, (by have := HA.out; show d = i + (e - 1); omega), by omega, by omega, by omega, by omega, by
              show l * 10 = _
              rw [HJ.out, HST.out, HL.out]; omega⟩
            case measure => simp [intOf]; omega
        · obtain rfl : a = i := by omega
          have hlz : l = part ds (18 * m) 18 := by
            rw [HL.out, HI.out]; congr 1; have := HA.out; omega
          have HLZ := Lib.hid hlz
          clear hlz
          go_wp2_with (at_builtin; refine wpList_append_own _ rfl _ _ 22 rfl w2.heap.size 25 i0 (.int .u64 0) 1 8 Tryz.underlying22 hi hz0 hz1 hz2 rfl (by decide) _ _ _ rfl (World.ownsRow.alloc HO.out _) ⟨wo.heap.size, 0, none⟩ 1 1 [.int .u64 l] rfl rfl (one_newO _ _ _) (by simp [Value.oneCell']) (by have := HOL.out; unfold maxLen; omega) (by have := HOL.out; omega) (by simp; omega) ?_; intro v' w4 hown' hgrow _; have HOn := Lib.hid (OW.snoc hown'); have HTn := Lib.hid (HT.out.keep hsz (HO.out.stays hgrow hle)); have hrd := HOn.out.rd (show (os ++ [l]).length ≤ _ by rw [List.length_append, HOL.out, List.length_singleton]; omega); obtain ⟨pv, cv, rfl, _, _, _⟩ := rd_form hrd; have t0 := HTn.out.x0; have t1 := HTn.out.x1; have t2 := HTn.out.c0; have t3 := HTn.out.c1; have t4 := HTn.out.g0; have t5 := HTn.out.g1; clear hown' hgrow hrd q0 q1 q2 q3 q4 q5)
          have HST := Lib.hid (HS.out.step HS1.out.canon (by have := HI.out; omega))
          go_roundw
          case rel =>
            have e1 : (os ++ [l]).length = os.length + 1 := by simp
            have HO2 := HOn.out
            rw [e1] at HO2
            refine ⟨a + 18, m + 1, os ++ [l], _, by go_num, by omega, (by have := HI.out; show a + 18 = 18 * (m + 1); omega), ?_, HO2.setBox hsz _, HTn.out.store _⟩
            rw [HLZ.out]; exact HST.out
          case measure => simp [intOf]; omega
    · have hltz : ¬ (i : Int) < (ds.length : Int) := by omega
      have HF := Lib.hid (HS.out.finish (by have := HI.out; omega))
      have hrd := HO.out.rd (by have := HOL.out; omega)
      obtain ⟨pv, cv, rfl, _, _, _⟩ := rd_form hrd
      have HR := Lib.hid (HS1.out.rebase (b' := B18) (by decide) (by decide) HF.out.1 HF.out.2)
      have r0 := HT.out.r0
      have r1 := HT.out.r1
      have rf0 := HT.out.f0
      have rf1 := HT.out.f1
      clear hrd
      cases n1 with
      | false =>
        go_wp2_with fail
        have hr0 := (World.cell?_of_block (a := ⟨w.heap.size + 1, 0, none⟩) (Below.heap_setCell wr ⟨w.heap.size + 1 + 1, 0, none⟩ (.bool false) (w.heap.size + 1) (by simp))).trans r0
        have hr1 := (World.cell?_of_block (a := ⟨w.heap.size + 1, 1, none⟩) (Below.heap_setCell wr ⟨w.heap.size + 1 + 1, 0, none⟩ (.bool false) (w.heap.size + 1) (by simp))).trans r1
        have zz := two_setW (x0 := .bool false) (x1 := .slice pv os.length cv) hr0 hr1
        refine bodyPost_ret (v := .agg #[.bool false, .slice pv os.length cv]) (by simp [results, Tryz.results35, go_sem, zz.1, zz.2]) rfl ⟨false, _, os, rfl, (((HO.out.setBox hsz _).mine).set2 (by omega) _ _).low (by omega), HR.out, ?_⟩
        exact ((HT.out.below.setCell (by simp; omega) _).setCell (by simp) _).setCell (by simp) _
      | true =>
        have hpos := HS1.out.sign rfl
        have hposz : (0 : Int) < (ds.length : Int) := by omega
        go_wp2_with fail
        have hr0 := (World.cell?_of_block (a := ⟨w.heap.size + 1, 0, none⟩) (Below.heap_setCell wr ⟨w.heap.size + 1 + 1, 0, none⟩ (.bool true) (w.heap.size + 1) (by simp))).trans r0
        have hr1 := (World.cell?_of_block (a := ⟨w.heap.size + 1, 1, none⟩) (Below.heap_setCell wr ⟨w.heap.size + 1 + 1, 0, none⟩ (.bool true) (w.heap.size + 1) (by simp))).trans r1
        have zz := two_setW (x0 := .bool true) (x1 := .slice pv os.length cv) hr0 hr1
        refine bodyPost_ret (v := .agg #[.bool true, .slice pv os.length cv]) (by simp [results, Tryz.results35, go_sem, zz.1, zz.2]) rfl ⟨true, _, os, rfl, (((HO.out.setBox hsz _).mine).set2 (by omega) _ _).low (by omega), HR.out, ?_⟩
        exact ((HT.out.below.setCell (by simp; omega) _).setCell (by simp) _).setCell (by simp) _
end
section
open Go.ChangeShapes Go.WideShapes Go.ChangeAt Go.RowKit
set_option linter.unusedVariables false
set_option linter.unusedSimpArgs false
end
section
open Go.ChangeShapes Go.WideShapes Go.ChangeAt Go.RowKit
set_option linter.unusedVariables false
set_option linter.unusedSimpArgs false
theorem Mine.form {k : IntKind} {T : TypeId} {w : World} {B : Nat} {u : Value} {ws : List Int} (h : Mine k T w B u ws) : ∃ p c, u = .slice p ws.length c := by
  rcases h with ⟨rfl, rfl⟩ | ⟨g, c, cur, h0, _⟩
  · exact ⟨_, _, rfl⟩
  · exact ⟨_, _, h0⟩
/-- A sign and the digits of a sum or a difference. -/
theorem Sgn.made {b : Int} (hb : 0 < b) {n : Bool} {os : List Int} {a z : Int} (hc : Canon b os) (hv : val b os = a) (hp : n = true → 0 < a) (hz : sg n a = z) : Sgn b n os z := by
  refine ⟨hc, fun e => ?_, by rw [hv, hz]⟩
  have h1 := hp e
  cases os with
  | nil => simp [val] at hv; omega
  | cons d r => simp
theorem Sgn.pos {b : Int} (hb : 0 < b) {n : Bool} {ws : List Int} {z : Int} (h : Sgn b n ws z) (e : n = true) : 0 < val b ws := h.canon.pos hb (h.sign e)
end
end Go.Proofs.YtpebnofjcodikaaGreatDoor
