/- Layer 2: whole.guessPlace: a guess at one place of a quotient. Layer 2: whole.giveBack: a row's window plus another row, in place. Layer 2: whole.takeTimes: a row's window less a multiple of another row, in place. -/
import Derived.Test.YtpebnofjcodikaaGreatDoorPWDivGen
import Derived.Test.YtpebnofjcodikaaGreatDoorPGWd
import Derived.Test.YtpebnofjcodikaaGreatDoorPGWa
import Derived.Test.YtpebnofjcodikaaGreatDoorPGWj
namespace Go.Proofs.YtpebnofjcodikaaGreatDoor
section
open Go.ChangeShapes Go.WideShapes Go.ChangeAt Go.RowKit
set_option linter.unusedVariables false
set_option linter.unusedSimpArgs false
def GuessPost (W : World) (hi lo d : Int) (e : Ending) (w' : World) : Prop :=
  ∃ g : Int, e = .returned (.int .u64 g) ∧ 0 ≤ g ∧ g < B18 ∧ ((d ≤ hi ∧ g = B18 - 1) ∨ (hi < d ∧ g * d ≤ hi * B18 + lo ∧ hi * B18 + lo < (g + 1) * d)) ∧ Below W.heap.size W w'
set_option maxRecDepth 100000 in
set_option maxHeartbeats 2000000 in
theorem guessPlace_any (hi lo d : Int) (h1 : 0 ≤ hi ∧ hi < B18) (h2 : 0 ≤ lo ∧ lo < B18) (h3 : 0 < d ∧ d < B18) (w : World) :
    Calls Tryz.prog 142 #[.int .u64 hi, .int .u64 lo, .int .u64 d] w (GuessPost w hi lo d) := by
  rw [B18] at h1 h2 h3
  obtain ⟨hn, rfl⟩ := Int.eq_ofNat_of_zero_le h1.1
  have hhb : hn < 18446744073709551616 := by omega
  by_cases c : d ≤ (hn : Int)
  · go_enter Tryz.func142, Tryz.ntmps142
    go_wp2
    go_ret
    exact ⟨999999999999999999, rfl, by omega, by decide, .inl ⟨c, by decide⟩, Below.refl _ _⟩
  · have hhd : (hn : Int) < d := by omega
    go_enter Tryz.func142, Tryz.ntmps142
    go_wp2_with (go_at_call 122; (with_reducible refine (mul64_at hn hhb _).mono ?_); rintro e w2 ⟨⟨mh, ml, rfl, hm, mh0, ml0, ml1⟩, rfl⟩)
    obtain ⟨lo2, cc, hadd, hac, hl0, hl1, hq0, hq1⟩ := add64_at ml lo ⟨ml0, ml1⟩ ⟨by omega, by omega⟩ w2
    rw [hadd]
    have hlt2 : mh + cc < d := by omega
    have hwr : IntKind.u64.wrap (mh + cc) = mh + cc := by rw [IntKind.wrap_u64]; omega
    have HA := Lib.hid hac
    have HM := Lib.hid hm
    clear hadd hac hm
    go_wp2_with (go_at_call 140; (with_reducible refine (div64_all _ _ _ ⟨by omega, hlt2⟩ (by omega) ⟨hl0, hl1⟩ _).mono ?_); rintro e w3 ⟨q, r, rfl, hqr, hqq, hrr, hrd, hb3⟩; have HQR := Lib.hid hqr; clear hqr)
    have hac := HA.out
    have hm := HM.out
    have hqr := HQR.out
    have hB : (hn : Int) * B18 + lo = q * d + r := by rw [B18]; omega
    have hqb : q < B18 := by
      refine Int.lt_of_not_ge fun hge => ?_
      have e1 : B18 * d ≤ q * d := Int.mul_le_mul_of_nonneg_right hge (by omega)
      have e2 : (hn : Int) * B18 ≤ (d - 1) * B18 := Int.mul_le_mul_of_nonneg_right (by omega) (by decide)
      rw [Int.sub_mul, Int.mul_comm d B18] at e2
      rw [B18] at hB e1 e2
      omega
    go_ret
    exact ⟨q, rfl, hqq, hqb, .inr ⟨hhd, by rw [hB]; omega, by rw [hB, Int.add_mul]; omega⟩, hb3⟩
end
section
open Go.ChangeShapes Go.WideShapes Go.ChangeAt Go.RowKit
set_option linter.unusedVariables false
set_option linter.unusedSimpArgs false
/-- Block g alone of what was there may have changed. -/
structure Only (g : Nat) (w w' : World) : Prop where
  below : Below g w w'
  other : ∀ k, k < w.heap.size → k ≠ g → w'.heap[k]? = w.heap[k]?
theorem Only.refl (g : Nat) (w : World) : Only g w w := ⟨Below.refl _ _, fun _ _ _ => rfl⟩
theorem Only.setCell {g i : Nat} {w w' : World} (h : Only g w w') (hg : g ≤ g) (v : Value) : Only g w (w'.setCell ⟨g, i, none⟩ v) :=
  ⟨h.below.setCell hg v, fun k hk hn => by rw [Below.heap_setCell _ _ _ _ (by simpa using hn)]; exact h.other k hk hn⟩
theorem Only.drewN {g : Nat} {w w' : World} (h : Only g w w') (n : Nat) : Only g w (w'.drewN n) := ⟨below_drewN h.below n, h.other⟩
theorem Only.cell {g : Nat} {w w' : World} (h : Only g w w') {a : Addr} (ha : a.block < g) : w'.cell? a = w.cell? a := h.below.cell ha
theorem Only.trans {g : Nat} {a b c : World} (h : Only g a b) (k : Only g b c) : Only g a c :=
  ⟨h.below.trans k.below, fun i hi hn => (k.other i (Nat.lt_of_lt_of_le hi h.below.size) hn).trans (h.other i hi hn)⟩
theorem Only.of {g : Nat} {w w' : World} (h : Below w.heap.size w w') (hg : g ≤ w.heap.size) : Only g w w' := ⟨h.mono hg, fun k hk _ => h.block k hk⟩
theorem Only.row {g q : Nat} {w w' : World} {ws : List Int} (h : Only g w w') (hq : LU w q ws) (hn : q ≠ g) : LU w' q ws := hq.block (h.other q hq.lt hn)
theorem getD_drop_at (ws : List Int) (o i : Nat) : (ws.drop o).getD i 0 = ws.getD (o + i) 0 := by
  simp only [List.getD_eq_getElem?_getD, List.getElem?_drop]
theorem drop_set_at (ws : List Int) (o i : Nat) (x : Int) : (ws.set (o + i) x).drop o = (ws.drop o).set i x := by
  rw [List.drop_set, if_neg (by omega), show o + i - o = i by omega]
structure GiveState (xs vs os : List Int) (o k : Nat) (c : Int) : Prop where
  len : os.length = xs.length
  dig : Dig B18 os
  same : ∀ j, j < o ∨ o + k ≤ j → os.getD j 0 = xs.getD j 0
  sum : SumAt B18 (xs.drop o) vs (os.drop o) k c
theorem GiveState.start {xs : List Int} (hx : Dig B18 xs) (vs : List Int) (o : Nat) : GiveState xs vs xs o 0 0 :=
  ⟨rfl, hx, fun j _ => rfl, SumAt.zero _ _ _ _⟩
theorem GiveState.step {xs vs os : List Int} {o k : Nat} {c c' d : Int} (h : GiveState xs vs os o k c) (hk : o + k < xs.length) (e : d + B18 * c' = c + xs.getD (o + k) 0 + vs.getD k 0) (hd : 0 ≤ d ∧ d < B18) : GiveState xs vs (os.set (o + k) d) o (k + 1) c' :=
  ⟨by rw [List.length_set]; exact h.len, h.dig.set _ d hd, fun j hj => by rw [getD_set' _ _ _ _ (by have := h.len; omega), if_neg (by omega)]; exact h.same j (by omega),
    by rw [drop_set_at]; exact h.sum.step (by rw [List.length_drop]; have := h.len; omega) (by rw [getD_drop_at]; exact e)⟩
def GivePost (W : World) (g : Nat) (xs vs : List Int) (o n : Nat) (e : Ending) (w' : World) : Prop :=
  ∃ (c : Int) (os : List Int), e = .returned (.bool (decide (c = 1))) ∧ 0 ≤ c ∧ c ≤ 1 ∧ GiveState xs vs os o n c ∧ LU w' g os ∧ Only g W w'
set_option maxRecDepth 100000 in
set_option maxHeartbeats 2000000 in
theorem giveBack_any (g o n c1 b o2 c2 : Nat) (xs vs : List Int) (w : World) (hL : LU w g xs) (hx : Dig B18 xs) (hn : o + n ≤ xs.length) (hc1 : n ≤ c1)
    (hn2 : xs.length ≤ 2000) (hv : Dig B18 vs) (hvl : vs.length ≤ n) (hc2 : vs.length ≤ c2) (hb : b < g) (hcell : ∀ i, i < vs.length → w.cell? ⟨b, o2 + i, none⟩ = some (.int .u64 (vs.getD i 0))) :
    Calls Tryz.prog 144 #[.slice (some ⟨g, o, none⟩) n c1, .slice (some ⟨b, o2, none⟩) vs.length c2] w (GivePost w g xs vs o n) := by
  have HL := Lib.hid hL
  have HX := Lib.hid hx
  have HV := Lib.hid hv
  have HC := Lib.hid hcell
  have hg := hL.lt
  clear hL hx hv hcell
  go_enter Tryz.func144, Tryz.ntmps144
  go_wp2_with fail
  go_loopw [5, 10] (fun cv s wr => ∃ (k : Nat) (c : Int) (os : List Int), s = .int .i64 k ∧ cv = .int .u64 c ∧ k ≤ n ∧ 0 ≤ c ∧ c ≤ 1 ∧ GiveState xs vs os o k c ∧ LU wr g os ∧ Only g w wr) (fun _ s _ => n - (intOf s).toNat)
  case atStart => exact ⟨0, 0, xs, by go_num, rfl, by omega, by omega, by omega, GiveState.start HX.out _ _, HL.out, Only.refl _ _⟩
  case round =>
    obtain ⟨k, c, os, rfl, rfl, hk, hc0, hc1', hS, hL, hB⟩ := hrel
    have HS := Lib.hid hS
    have HL2 := Lib.hid hL
    have HB2 := Lib.hid hB
    have hol := hS.len
    clear hS hL hB
    by_cases hlt : k < n
    · have hox := HL2.out.cell (i := o + k) (by omega)
      rw [HS.out.same (o + k) (.inr (by omega))] at hox
      have hfr := HL2.out.frozen (o + k)
      have hbx := HX.out (o + k)
      have hby := HV.out k
      rw [B18] at hbx hby
      have hlz : (k : Int) < (n : Int) := by omega
      by_cases hky : k < vs.length
      · have hcy : wr.cell? ⟨b, o2 + k, none⟩ = some (.int .u64 (vs.getD k 0)) := by rw [HB2.out.cell hb]; exact HC.out k hky
        have hkz : (k : Int) < (vs.length : Int) := by omega
        have HN := Lib.hid (fun d c' (h : d + B18 * c' = c + xs.getD (o + k) 0 + vs.getD k 0) (hd : 0 ≤ d ∧ d < B18) => HS.out.step (by omega) h hd)
        generalize xs.getD (o + k) 0 = x at hox hbx HN
        generalize vs.getD k 0 = y at hcy hby HN
        go_wp2
        go_roundw
        case rel => exact ⟨k + 1, _, _, by go_num, rfl, by omega, by omega, by omega, HN.out _ _ (by rw [B18]; omega) (by rw [B18]; omega), HL2.out.set (o + k) _, HB2.out.setCell (Nat.le_refl _) _⟩
        case measure => simp [intOf]; omega
      · have hkz : ¬ (k : Int) < (vs.length : Int) := by omega
        have HN := Lib.hid (fun d c' (h : d + B18 * c' = c + xs.getD (o + k) 0 + vs.getD k 0) (hd : 0 ≤ d ∧ d < B18) => HS.out.step (by omega) h hd)
        rw [getD_len (show vs.length ≤ k by omega)] at HN
        generalize xs.getD (o + k) 0 = x at hox hbx HN
        clear hby
        go_wp2
        go_roundw
        case rel => exact ⟨k + 1, _, _, by go_num, rfl, by omega, by omega, by omega, HN.out _ _ (by rw [B18]; omega) (by rw [B18]; omega), HL2.out.set (o + k) _, HB2.out.setCell (Nat.le_refl _) _⟩
        case measure => simp [intOf]; omega
    · obtain rfl : k = n := by omega
      go_wp2
      go_ret
      refine ⟨c, os, ?_, hc0, hc1', HS.out, HL2.out, HB2.out⟩
      first | rfl | (congr 2; by_cases h : c = 1 <;> simp [h])
end
section
open Go.ChangeShapes Go.WideShapes Go.ChangeAt Go.RowKit
set_option linter.unusedVariables false
set_option linter.unusedSimpArgs false
theorem lu_drewN {w : World} {g : Nat} {ws : List Int} (h : LU w g ws) (n : Nat) : LU (w.drewN n) g ws := h
theorem getD_times (vs : List Int) (t : Int) (k : Nat) : (vs.map (fun v => v * t)).getD k 0 = vs.getD k 0 * t := by
  simp only [List.getD_eq_getElem?_getD, List.getElem?_map]
  cases vs[k]? <;> simp
theorem val_times (b t : Int) (vs : List Int) : val b (vs.map (fun v => v * t)) = val b vs * t := by
  induction vs with
  | nil => simp [val]
  | cons v vs ih => simp only [List.map_cons, val, ih]; rw [Int.add_mul, Int.mul_assoc]
structure TakeState (xs vs os : List Int) (o : Nat) (t : Int) (k : Nat) (c b : Int) : Prop where
  len : os.length = xs.length
  dig : Dig B18 os
  same : ∀ j, j < o ∨ o + k ≤ j → os.getD j 0 = xs.getD j 0
  diff : ∃ cc, (k ≤ vs.length → cc = c) ∧ (vs.length < k → cc = 0) ∧ DiffAt B18 (xs.drop o) (vs.map (fun v => v * t)) (os.drop o) k (cc + b)
theorem TakeState.start {xs : List Int} (hx : Dig B18 xs) (vs : List Int) (o : Nat) (t : Int) : TakeState xs vs xs o t 0 0 0 :=
  ⟨rfl, hx, fun j _ => rfl, 0, fun _ => rfl, fun _ => rfl, DiffAt.zero _ _ _ _⟩
theorem TakeState.step {xs vs os : List Int} {o k : Nat} {t c b c' b' d : Int} (h : TakeState xs vs os o t k c b) (hk : o + k < xs.length) (hv : k < vs.length) (e : d - B18 * (c' + b') = xs.getD (o + k) 0 - vs.getD k 0 * t - (c + b)) (hd : 0 ≤ d ∧ d < B18) : TakeState xs vs (os.set (o + k) d) o t (k + 1) c' b' := by
  obtain ⟨cc, h1, h2, h3⟩ := h.diff
  obtain rfl := h1 (by omega)
  exact ⟨by rw [List.length_set]; exact h.len, h.dig.set _ d hd, fun j hj => by rw [getD_set' _ _ _ _ (by have := h.len; omega), if_neg (by omega)]; exact h.same j (by omega),
    c', fun _ => rfl, fun hh => by omega, by rw [drop_set_at]; exact h3.step (by rw [List.length_drop]; have := h.len; omega) (by rw [getD_drop_at, getD_times]; exact e)⟩
theorem TakeState.last {xs vs os : List Int} {o k : Nat} {t c b b' d : Int} (h : TakeState xs vs os o t k c b) (hk : o + k < xs.length) (hv : k = vs.length) (e : d - B18 * b' = xs.getD (o + k) 0 - (c + b)) (hd : 0 ≤ d ∧ d < B18) : TakeState xs vs (os.set (o + k) d) o t (k + 1) c b' := by
  obtain ⟨cc, h1, h2, h3⟩ := h.diff
  obtain rfl := h1 (by omega)
  exact ⟨by rw [List.length_set]; exact h.len, h.dig.set _ d hd, fun j hj => by rw [getD_set' _ _ _ _ (by have := h.len; omega), if_neg (by omega)]; exact h.same j (by omega),
    0, fun hh => by omega, fun _ => rfl, by rw [drop_set_at]; exact h3.step (by rw [List.length_drop]; have := h.len; omega) (by rw [getD_drop_at, getD_times, getD_len (show vs.length ≤ k by omega), Int.zero_mul, Int.zero_add, Int.sub_zero]; exact e)⟩
def TakePost (W : World) (g : Nat) (xs vs : List Int) (o : Nat) (t : Int) (e : Ending) (w' : World) : Prop :=
  ∃ (c : Int) (os : List Int), e = .returned (.bool (decide (c = 1))) ∧ 0 ≤ c ∧ c ≤ 1 ∧ os.length = xs.length ∧ Dig B18 os ∧ (∀ j, j < o ∨ o + (vs.length + 1) ≤ j → os.getD j 0 = xs.getD j 0) ∧
    DiffAt B18 (xs.drop o) (vs.map (fun v => v * t)) (os.drop o) (vs.length + 1) c ∧ LU w' g os ∧ Only g W w'
set_option maxRecDepth 100000 in
set_option maxHeartbeats 2000000 in
theorem takeTimes_any (g o c1 b o2 c2 : Nat) (xs vs : List Int) (t : Int) (w : World) (hL : LU w g xs) (hx : Dig B18 xs) (hn : o + (vs.length + 1) ≤ xs.length) (hc1 : vs.length + 1 ≤ c1)
    (hn2 : xs.length ≤ 2000) (hv : Dig B18 vs) (ht : 0 ≤ t ∧ t < B18) (hc2 : vs.length ≤ c2) (hb : b < g) (hcell : ∀ i, i < vs.length → w.cell? ⟨b, o2 + i, none⟩ = some (.int .u64 (vs.getD i 0))) :
    Calls Tryz.prog 143 #[.slice (some ⟨g, o, none⟩) ((vs.length + 1 : Nat) : Int).toNat c1, .slice (some ⟨b, o2, none⟩) vs.length c2, .int .u64 t] w (TakePost w g xs vs o t) := by
  obtain ⟨n, hne⟩ : ∃ n, vs.length + 1 = n := ⟨_, rfl⟩
  rw [hne] at hn hc1
  rw [hne, Int.toNat_natCast]
  have HL := Lib.hid hL
  have HX := Lib.hid hx
  have HV := Lib.hid hv
  have HT := Lib.hid ht
  have HC := Lib.hid hcell
  have hg := hL.lt
  clear hL hx hv hcell ht
  go_enter Tryz.func143, Tryz.ntmps143
  go_wp2_with fail
  go_loopw [7, 8, 13] (fun cv bv s wr => ∃ (k : Nat) (c bo : Int) (os : List Int), s = .int .i64 k ∧ cv = .int .u64 c ∧ bv = .int .u64 bo ∧ k ≤ n ∧ 0 ≤ c ∧ c < 1000000000000000000 ∧ 0 ≤ bo ∧ bo ≤ 1 ∧ TakeState xs vs os o t k c bo ∧ LU wr g os ∧ Only g w wr) (fun _ _ s _ => n - (intOf s).toNat)
  case atStart => exact ⟨0, 0, 0, xs, by go_num, rfl, rfl, by omega, by omega, by omega, by omega, by omega, TakeState.start HX.out _ _ _, HL.out, Only.refl _ _⟩
  case round =>
    obtain ⟨k, c, bo, os, rfl, rfl, rfl, hk, hc0, hc1', hb0, hb1, hS, hL, hB⟩ := hrel
    have HS := Lib.hid hS
    have HL2 := Lib.hid hL
    have HB2 := Lib.hid hB
    have hol := hS.len
    clear hS hL hB
    by_cases hlt : k < n
    · have hbx := HX.out (o + k)
      have hby := HV.out k
      have hbt := HT.out
      have hlz : (k : Int) < (n : Int) := by omega
      by_cases hky : k < vs.length
      · have hcy : wr.cell? ⟨b, o2 + k, none⟩ = some (.int .u64 (vs.getD k 0)) := by rw [HB2.out.cell hb]; exact HC.out k hky
        have hkz : (k : Int) < (vs.length : Int) := by omega
        have HN0 := Lib.hid (fun c' b' d (h : d - B18 * (c' + b') = xs.getD (o + k) 0 - vs.getD k 0 * t - (c + bo)) (hd : 0 ≤ d ∧ d < B18) => HS.out.step (by omega) hky h hd)
        have HM := Lib.hid (fun wx => mulAdd_any (vs.getD k 0) t c 0 hby hbt ⟨hc0, by rw [B18]; omega⟩ (by decide) wx)
        generalize vs.getD k 0 = y at hcy hby HN0 HM
        have HBY := Lib.hid hby
        clear hby hbt
        go_wp2_with (go_at_call 114; (with_reducible refine (HM.out _).mono ?_); rintro e w2 ⟨l, cy, rfl, he, hl, hcy2, nn, rfl⟩; have hox := (lu_drewN HL2.out nn).cell (i := o + k) (by omega); rw [HS.out.same (o + k) (.inr (by omega))] at hox; have hfr := (lu_drewN HL2.out nn).frozen (o + k); have HL3 := Lib.hid (lu_drewN HL2.out nn); have HB3 := Lib.hid (HB2.out.drewN nn); rw [B18] at he hl hcy2 hbx; have HN := Lib.hid (fun d b' (h : d - B18 * b' = xs.getD (o + k) 0 - l - bo) (hd : 0 ≤ d ∧ d < B18) => HN0.out cy b' d (by rw [Int.mul_add]; rw [B18] at *; omega) hd); have HE := Lib.hid he; clear he; generalize xs.getD (o + k) 0 = x at hox hbx HN; clear HN0)
        · go_roundw
          case rel => exact ⟨k + 1, _, 1, _, by go_num, rfl, rfl, by omega, by omega, by omega, by omega, by omega, HN.out (x + 1000000000000000000 - (l + bo)) 1 (by rw [B18]; omega) (by rw [B18]; omega), by
            have := (HL3.out.set (o + k) (x + 1000000000000000000)).set (o + k) (x + 1000000000000000000 - (l + bo))
            rw [List.set_set] at this
            exact this, (HB3.out.setCell (Nat.le_refl _) _).setCell (Nat.le_refl _) _⟩
          case measure => simp [intOf]; omega
        · go_roundw
          case rel => exact ⟨k + 1, _, 0, _, by go_num, rfl, rfl, by omega, by omega, by omega, by omega, by omega, HN.out (x - (l + bo)) 0 (by rw [B18]; omega) (by rw [B18]; omega), HL3.out.set (o + k) _, HB3.out.setCell (Nat.le_refl _) _⟩
          case measure => simp [intOf]; omega
      · have hkz : ¬ (k : Int) < (vs.length : Int) := by omega
        have hox := HL2.out.cell (i := o + k) (by omega)
        rw [HS.out.same (o + k) (.inr (by omega))] at hox
        have hfr := HL2.out.frozen (o + k)
        have HL3 := HL2
        have HB3 := HB2
        have HN := Lib.hid (fun d b' (h : d - B18 * b' = xs.getD (o + k) 0 - (c + bo)) (hd : 0 ≤ d ∧ d < B18) => HS.out.last (by omega) (by omega) h hd)
        rw [B18] at hbx
        clear hby hbt
        generalize xs.getD (o + k) 0 = x at hox hbx HN
        by_cases hbor : x < c + bo
        · go_wp2
          go_roundw
          case rel => exact ⟨k + 1, _, 1, _, by go_num, rfl, rfl, by omega, by omega, by omega, by omega, by omega, HN.out (x + 1000000000000000000 - (c + bo)) 1 (by rw [B18]; omega) (by rw [B18]; omega), by
            have := (HL3.out.set (o + k) (x + 1000000000000000000)).set (o + k) (x + 1000000000000000000 - (c + bo))
            rw [List.set_set] at this
            exact this, (HB3.out.setCell (Nat.le_refl _) _).setCell (Nat.le_refl _) _⟩
          case measure => simp [intOf]; omega
        · go_wp2
          go_roundw
          case rel => exact ⟨k + 1, _, 0, _, by go_num, rfl, rfl, by omega, by omega, by omega, by omega, by omega, HN.out (x - (c + bo)) 0 (by rw [B18]; omega) (by rw [B18]; omega), HL3.out.set (o + k) _, HB3.out.setCell (Nat.le_refl _) _⟩
          case measure => simp [intOf]; omega
    · obtain rfl : k = n := by omega
      obtain ⟨cc, h1, h2, h3⟩ := HS.out.diff
      have hcc := h2 (by omega)
      rw [hcc, Int.zero_add, ← hne] at h3
      have h4 := HS.out.same
      rw [← hne] at h4
      have HD := Lib.hid h3
      have HW := Lib.hid h4
      clear h3 h4 h1 h2
      go_wp2
      go_ret
      refine ⟨bo, os, ?_, hb0, hb1, hol, HS.out.dig, HW.out, HD.out, HL2.out, HB2.out⟩
      first | rfl | (congr 2; by_cases h : bo = 1 <;> simp [h])
end
end Go.Proofs.YtpebnofjcodikaaGreatDoor
