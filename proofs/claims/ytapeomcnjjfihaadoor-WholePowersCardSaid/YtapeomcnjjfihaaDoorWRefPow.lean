/- Layer 2: the reference's Pow. -/
import Derived.Test.YtapeomcnjjfihaaDoorWRefTimes
import Derived.Test.YtapeomcnjjfihaaDoorWRefInt
import Derived.Test.YtapeomcnjjfihaaDoorWPow
import Derived.Test.YtapeomcnjjfihaaDoorLawNum2
import Derived.Deep.Cut
import Derived.Deep.CutBlock
namespace Go.Proofs.YtapeomcnjjfihaaDoor
open Go.ChangeShapes Go.WideShapes Go.ChangeAt Go.RowKit
set_option linter.unusedVariables false
set_option linter.unusedSimpArgs false
def NumCase (z : Int) (m : Bool) (ds : List Int) (er : Int) : Prop := (Small z ∧ er = 0 ∧ Sgn 10 m ds z) ∨ (¬ Small z ∧ er = 7)
def RefPowPost (W : World) (z1 z2 : Int) (e : Ending) (w' : World) : Prop :=
  ∃ m p c ds er, e = .returned (.tuple #[.agg #[.bool m, .slice p (List.length ds) c], .int .i64 er]) ∧ Rb w' (.slice p ds.length c) ds ∧ Below W.heap.size W w' ∧
    ((z2 < 0 ∧ er = 1) ∨ (0 ≤ z2 ∧ NumCase (z1 ^ z2.toNat) m ds er))
theorem sgn_d1 : Sgn 10 false [1] 1 := ⟨⟨fun i => by cases i <;> simp, fun _ => by simp⟩, (fun h => by cases h), by simp [sg, val]⟩
theorem row_one {w : World} {g : Nat} (h : g = w.heap.size) : Rb (w.alloc (.cells #[.int .u8 1] 5)) (.slice (some ⟨g, 0, none⟩) 1 1) [1] := by
  subst h
  refine .inr ⟨w.heap.size, 0, 1, rfl, by simp, by simp, fun i hi => ?_⟩
  obtain rfl : i = 0 := by simpa using hi
  simp
theorem low_digit10 {ys : List Int} {z : Int} (h : Sgn 10 false ys z) (h0 : 0 < ys.length) : 0 < z ∧ z % 2 = ys.getD 0 0 % 2 := by
  have hz : z = val 10 ys := by have := h.eq; simpa [sg] using this
  refine ⟨by rw [hz]; exact h.canon.pos (by decide) h0, ?_⟩
  match ys, h0 with
  | d :: r, _ =>
    rw [hz]
    have : val 10 (d :: r) = d + 10 * val 10 r := rfl
    rw [this]
    simp only [List.getD_cons_zero]
    generalize val 10 r = v
    omega
theorem abs_two10 {n : Bool} {xs : List Int} {z : Int} (h : Sgn 10 n xs z) (h0 : 0 < xs.length) (h1 : ¬ (xs.length = 1 ∧ xs.getD 0 0 = 1)) : 2 ≤ z.natAbs := by
  have ha := h.abs (by decide)
  have hp := h.canon.pos (by decide) h0
  by_cases hl : xs.length = 1
  · match xs, hl with
    | [d], _ =>
      have hd : d ≠ 1 := fun e => h1 ⟨rfl, by simpa using e⟩
      rw [val_one] at ha hp
      omega
  · have h2 := canon_lo (b := 10) (by decide) h.canon h0
    have h3 := pow_mono' (b := 10) (by decide) (show 1 ≤ xs.length - 1 by omega)
    rw [Int.pow_succ, Int.pow_zero, Int.one_mul] at h3
    have h4 : (10 : Int) ≤ val 10 xs := Int.le_trans h3 h2
    omega
theorem one_val10 {n : Bool} {xs : List Int} {z : Int} (h : Sgn 10 n xs z) (h1 : xs.length = 1) (h2 : xs.getD 0 0 = 1) : z = sg n 1 := by
  match xs, h1 with
  | [d], _ =>
    have hd : d = 1 := by simpa using h2
    subst hd
    rw [h.eq, val_one]
theorem sgn_one10 (n : Bool) : Sgn 10 n [1] (sg n 1) := ⟨⟨fun i => by cases i <;> simp, fun _ => by simp⟩, fun _ => by simp, by simp [val]⟩
/-- The numbers in their boxes at a round's head: what stays (RBox), and that it is a power. -/
structure RBox (w wr : World) (bO : Nat) (n1 : Bool) (u1 : Value) (xs : List Int) (m : Bool) (p : Option Addr) (c : Nat) (ds : List Int) : Prop where
  bx : wr.cell? ⟨w.heap.size, 0, none⟩ = some (.bool n1) ∧ wr.cell? ⟨w.heap.size, 1, none⟩ = some u1
  rx : Rb wr u1 xs
  bo : Box2 wr bO (.bool m) (.slice p ds.length c)
  ro : Rb wr (.slice p ds.length c) ds
  res : Box2 wr (w.heap.size + 1 + 1) (.bool false) (.slice none 0 0)
  hO : w.heap.size + 1 + 1 < bO
  below : Below w.heap.size w wr
structure RPow (w wr : World) (bO : Nat) (n1 : Bool) (u1 : Value) (xs : List Int) (m : Bool) (p : Option Addr) (c : Nat) (ds : List Int) (z : Int) : Prop where
  bx : wr.cell? ⟨w.heap.size, 0, none⟩ = some (.bool n1) ∧ wr.cell? ⟨w.heap.size, 1, none⟩ = some u1
  rx : Rb wr u1 xs
  bo : Box2 wr bO (.bool m) (.slice p ds.length c)
  ro : Rb wr (.slice p ds.length c) ds
  so : Sgn 10 m ds z
  sm : Small z
  res : Box2 wr (w.heap.size + 1 + 1) (.bool false) (.slice none 0 0)
  hO : w.heap.size + 1 + 1 < bO
  below : Below w.heap.size w wr
theorem RBox.keep {w wr w' : World} {bO : Nat} {n1 : Bool} {u1 : Value} {xs : List Int} {m : Bool} {p : Option Addr} {c : Nat} {ds : List Int} (h : RBox w wr bO n1 u1 xs m p c ds) (hb : Below wr.heap.size wr w') : RBox w w' bO n1 u1 xs m p c ds :=
  ⟨⟨below_cell hb h.bx.1, below_cell hb h.bx.2⟩, h.rx.keep hb, h.bo.keep hb, h.ro.keep hb, h.res.keep hb, h.hO, h.below.trans (hb.mono h.below.size)⟩
theorem RPow.keep {w wr w' : World} {bO : Nat} {n1 : Bool} {u1 : Value} {xs : List Int} {m : Bool} {p : Option Addr} {c : Nat} {ds : List Int} {z : Int} (h : RPow w wr bO n1 u1 xs m p c ds z) (hb : Below wr.heap.size wr w') : RPow w w' bO n1 u1 xs m p c ds z :=
  ⟨⟨below_cell hb h.bx.1, below_cell hb h.bx.2⟩, h.rx.keep hb, h.bo.keep hb, h.ro.keep hb, h.so, h.sm, h.res.keep hb, h.hO, h.below.trans (hb.mono h.below.size)⟩
theorem RPow.put {w wr : World} {bO : Nat} {n1 : Bool} {u1 : Value} {xs : List Int} {m : Bool} {p : Option Addr} {c : Nat} {ds : List Int} {z : Int} {m2 : Bool} {p2 : Option Addr} {c2 : Nat} {es : List Int} (h : RPow w wr bO n1 u1 xs m p c ds z) (hR : Rb wr (.slice p2 es.length c2) es) :
    RBox w ((wr.setCell ⟨bO, 0, none⟩ (.bool m2)).setCell ⟨bO, 1, none⟩ (.slice p2 es.length c2)) bO n1 u1 xs m2 p2 c2 es :=
  ⟨⟨cell_set2 (by have := h.hO; omega) h.bx.1 _ _, cell_set2 (by have := h.hO; omega) h.bx.2 _ _⟩, h.rx.set2 h.bo _ _, Box2.put _ _ h.bo, hR.set2 h.bo _ _, Box2.set2 (by have := h.hO; omega) _ _ h.res, h.hO,
    (h.below.setCell (by have := h.hO; simp; omega) _).setCell (by have := h.hO; simp; omega) _⟩
theorem pow_not_small {z : Int} {a b : Nat} (h : ¬ Small (z ^ a)) : ¬ Small (z ^ (a + b)) := by
  by_cases hz : z = 0
  · exfalso
    apply h
    subst hz
    cases a with
    | zero => exact small_one false
    | succ a => rw [Int.pow_succ, Int.mul_zero]; exact I64.small ⟨by decide, by decide⟩
  · refine not_small h ?_
    rw [Int.pow_add]
    exact abs_mul_le (pow_ne hz b)
set_option maxRecDepth 100000 in
set_option maxHeartbeats 8000000 in
theorem refpow_any (n1 : Bool) (u1 : Value) (xs : List Int) (z1 : Int) (n2 : Bool) (u2 : Value) (ys : List Int) (z2 : Int) (w : World) (hr1 : Rb w u1 xs) (hr2 : Rb w u2 ys) (hs1 : Sgn 10 n1 xs z1) (hs2 : Sgn 10 n2 ys z2) (hl1 : xs.length ≤ 540) (hl2 : ys.length ≤ 540) :
    Calls Tryd.prog 43 #[.agg #[.bool n1, u1], .agg #[.bool n2, u2]] w (RefPowPost w z1 z2) := by
  have HR1 := Lib.hid hr1
  have HR2 := Lib.hid hr2
  obtain ⟨p1, c1, rfl, _, _, hp1⟩ := rb_form hr1
  obtain ⟨p2, c2, rfl, _, _, hp2⟩ := rb_form hr2
  have HP1 := Lib.hid hp1
  have HP2 := Lib.hid hp2
  have HS1 := Lib.hid hs1
  have HS2 := Lib.hid hs2
  clear hr1 hr2 hs1 hs2 hp1 hp2
  go_enter Tryd.func43, Tryd.ntmps43
  go_upto_region 1 with (fail)
  generalize hw2 : World.alloc (World.alloc (World.alloc w _) _) _ = w2
  have hbx : Bx3 w2 w.heap.size n1 (.slice p1 xs.length c1) n2 (.slice p2 ys.length c2) := by
    rw [← hw2]
    exact ⟨alloc_cell (alloc_cell (by simp) _) _, alloc_cell (alloc_cell (by simp) _) _, alloc_cell (by simp) _, alloc_cell (by simp) _, third_cell _ _ _ _ _ 0, third_cell _ _ _ _ _ 1, third_fr _ _ _ _ _ 0, third_fr _ _ _ _ _ 1, by simp⟩
  have HB2 := Lib.hid (show Below w.heap.size w w2 by rw [← hw2]; exact (((Below.refl _ _).alloc (Nat.le_refl _) _).alloc (by simp) _).alloc (by simp; omega) _)
  clear hw2
  have HX2 := Lib.hid hbx
  have s0 := hbx.x0
  have s1 := hbx.x1
  have s2 := hbx.y0
  have s3 := hbx.y1
  have r0 := hbx.r0
  have r1 := hbx.r1
  have f0 := hbx.f0
  have f1 := hbx.f1
  have hlt := hbx.lt
  clear hbx
  cases n2 with
  | true =>
    have HZ2 := Lib.hid (show z2 < 0 by have := HS2.out.neg_iff (by decide); simpa using this.symm)
    go_wp2_with fail
    have zz := two_setW (x0 := .bool false) (x1 := (.slice none 0 0)) r0 r1
    refine bodyPost_ret (v := .tuple #[.agg #[.bool false, (.slice none 0 0)], .int .i64 1]) (by simp [results, Tryd.results43, go_sem, zz.1, zz.2]) rfl ?_
    exact ⟨false, none, 0, [], 1, rfl, .inl ⟨_, rfl, rfl⟩, (HB2.out.setCell (by simp; omega) _).setCell (by simp; omega) _, .inl ⟨HZ2.out, rfl⟩⟩
  | false =>
    have HZ0 := Lib.hid (show 0 ≤ z2 by have := HS2.out.neg_iff (by decide); simp at this; omega)
    by_cases hy0 : ys.length = 0
    · have HE := Lib.hid ((HS2.out.empty (by decide)).1 hy0)
      obtain rfl := List.length_eq_zero_iff.1 hy0
      clear hy0
      go_wp2_with fail
      have hbr : Box2 w2 (w.heap.size + 1 + 1) (.bool false) (.slice none 0 0) := ⟨r0, r1, f0, f1⟩
      have zz0 := two_setW (x0 := .bool false) (x1 := .slice (some ⟨w2.heap.size, 0, none⟩) 1 1) r0 r1
      have zz1 := alloc_cell zz0.1 (.cells #[.int .u8 1] 5)
      have zz2 := alloc_cell zz0.2 (.cells #[.int .u8 1] 5)
      refine bodyPost_ret (v := .tuple #[.agg #[.bool false, .slice (some ⟨w2.heap.size, 0, none⟩) 1 1], .int .i64 0]) (by simp [results, Tryd.results43, go_sem, zz1, zz2]) rfl ?_
      exact ⟨false, _, 1, [1], 0, rfl, row_one (by simp), (((HB2.out.setCell (by simp; omega) _).setCell (by simp; omega) _).alloc (by simp; exact HB2.out.size) _), .inr ⟨HZ0.out, by rw [HE.out, show (0 : Int).toNat = 0 from rfl, Int.pow_zero]; exact .inl ⟨small_one false, rfl, sgn_d1⟩⟩⟩
    · have hyn : ¬ (ys.length : Int) = 0 := by omega
      have hyp : 0 < ys.length := by omega
      have hypz : (0 : Int) < (ys.length : Int) := by omega
      obtain ⟨b2, o2, rfl, hcy⟩ := HP2.out hyp
      have HLD := Lib.hid (low_digit10 HS2.out hyp)
      have hc0 := below_cell HB2.out (hcy 0 hyp)
      have hyb := HS2.out.canon.1 0
      rw [Nat.add_zero] at hc0
      clear hcy
      have HLD' := HLD.out
      clear HLD
      generalize ys.getD 0 0 = y0 at hc0 hyb HLD'
      have HLD := Lib.hid HLD'
      clear HLD'
      by_cases hx0 : xs.length = 0
      · have HE := Lib.hid ((HS1.out.empty (by decide)).1 hx0)
        obtain rfl := List.length_eq_zero_iff.1 hx0
        clear hx0
        go_wp2_with fail
        have zz := two_setW (x0 := .bool false) (x1 := (.slice none 0 0)) r0 r1
        refine bodyPost_ret (v := .tuple #[.agg #[.bool false, (.slice none 0 0)], .int .i64 0]) (by simp [results, Tryd.results43, go_sem, zz.1, zz.2]) rfl ?_
        exact ⟨false, none, 0, [], 0, rfl, .inl ⟨_, rfl, rfl⟩, (HB2.out.setCell (by simp; omega) _).setCell (by simp; omega) _, .inr ⟨HZ0.out, by rw [HE.out, show z2.toNat = (z2.toNat - 1) + 1 by have := HLD.out.1; omega, Int.pow_succ, Int.mul_zero]; exact .inl ⟨I64.small ⟨by decide, by decide⟩, rfl, Sgn.zero (by decide)⟩⟩⟩
      · have hxn : ¬ (xs.length : Int) = 0 := by omega
        have hxp : 0 < xs.length := by omega
        have hxpz : (0 : Int) < (xs.length : Int) := by omega
        obtain ⟨b1, o1, rfl, hcx⟩ := HP1.out hxp
        have hx0' := below_cell HB2.out (hcx 0 hxp)
        rw [Nat.add_zero] at hx0'
        clear hcx
        by_cases hone : xs.length = 1 ∧ xs.getD 0 0 = 1
        · have HOV := Lib.hid (one_val10 HS1.out hone.1 hone.2)
          obtain rfl : xs = [1] := by
            match xs, hone.1 with
            | [d], _ => have := hone.2; simp at this; rw [this]
          simp only [List.length_singleton, List.getD_cons_zero] at hx0' s1
          clear hone hx0 hxn hxp hxpz
          cases n1 with
          | false =>
            go_wp2_with fail
            go_region
            go_wp2_with fail
            have hbr : Box2 w2 (w.heap.size + 1 + 1) (.bool false) (.slice none 0 0) := ⟨r0, r1, f0, f1⟩
            have zz := two_setW (w := w2) (x0 := .bool false) (x1 := .slice (some ⟨b1, o1, none⟩) 1 c1) r0 r1
            refine bodyPost_ret (v := .tuple #[.agg #[.bool false, .slice (some ⟨b1, o1, none⟩) 1 c1], .int .i64 0]) (by simp [results, Tryd.results43, go_sem, zz.1, zz.2]) rfl ?_
            exact ⟨false, some ⟨b1, o1, none⟩, c1, [1], 0, rfl, (((HR1.out.keep HB2.out).put2 hbr _ _).drew), (((HB2.out.setCell (by simp; omega) _).setCell (by simp; omega) _).drew), .inr ⟨HZ0.out, by rw [HOV.out, pow_sg]; exact .inl ⟨small_one _, rfl, sgn_one10 _⟩⟩⟩
          | true =>
            cases hod : (y0 % 2 == 1) with
            | false =>
              have HOD := Lib.hid (show ¬ y0 % 2 = 1 by simpa using hod)
              have hod2 : ¬ y0 % 2 = 1 := HOD.out
              go_wp2_with fail
              go_region
              go_wp2_with fail
              have hbr : Box2 w2 (w.heap.size + 1 + 1) (.bool false) (.slice none 0 0) := ⟨r0, r1, f0, f1⟩
              have zz := two_setW (w := w2) (x0 := .bool false) (x1 := .slice (some ⟨b1, o1, none⟩) 1 c1) r0 r1
              refine bodyPost_ret (v := .tuple #[.agg #[.bool false, .slice (some ⟨b1, o1, none⟩) 1 c1], .int .i64 0]) (by simp [results, Tryd.results43, go_sem, zz.1, zz.2]) rfl ?_
              exact ⟨false, some ⟨b1, o1, none⟩, c1, [1], 0, rfl, (((HR1.out.keep HB2.out).put2 hbr _ _).drew), (((HB2.out.setCell (by simp; omega) _).setCell (by simp; omega) _).drew), .inr ⟨HZ0.out, by have hp : decide (z2.toNat % 2 = 1) = false := (by have := HLD.out.2; have := HOD.out; have := HZ0.out; simp; omega); rw [HOV.out, pow_sg, hp]; exact .inl ⟨small_one _, rfl, sgn_one10 _⟩⟩⟩
            | true =>
              have HOD := Lib.hid (show y0 % 2 = 1 by simpa using hod)
              have hod2 : y0 % 2 = 1 := HOD.out
              go_wp2_with fail
              go_region
              go_wp2_with fail
              have hbr : Box2 w2 (w.heap.size + 1 + 1) (.bool false) (.slice none 0 0) := ⟨r0, r1, f0, f1⟩
              have zz := two_setW (w := w2) (x0 := .bool true) (x1 := .slice (some ⟨b1, o1, none⟩) 1 c1) r0 r1
              refine bodyPost_ret (v := .tuple #[.agg #[.bool true, .slice (some ⟨b1, o1, none⟩) 1 c1], .int .i64 0]) (by simp [results, Tryd.results43, go_sem, zz.1, zz.2]) rfl ?_
              exact ⟨true, some ⟨b1, o1, none⟩, c1, [1], 0, rfl, (((HR1.out.keep HB2.out).put2 hbr _ _).drew), (((HB2.out.setCell (by simp; omega) _).setCell (by simp; omega) _).drew), .inr ⟨HZ0.out, by have hp : decide (z2.toNat % 2 = 1) = true := (by have := HLD.out.2; have := HOD.out; have := HZ0.out; simp; omega); rw [HOV.out, pow_sg, hp]; exact .inl ⟨small_one _, rfl, sgn_one10 _⟩⟩⟩
        · have HT := Lib.hid (abs_two10 HS1.out hxp hone)
          go_upto_region 7 with (fail)
          go_cut [34] (fun a wx => a = .bool false ∧ w2 = wx)
          case first =>
            by_cases hxl : xs.length = 1
            · obtain ⟨d, rfl⟩ : ∃ d, xs = [d] := by
                match xs, hxl with
                | [d], _ => exact ⟨d, rfl⟩
              have hd1 : (d == 1) = false := by rw [beq_eq_false_iff_ne]; exact fun e => hone ⟨rfl, by simpa using e⟩
              have hd2 : ¬ d = 1 := by simpa using hd1
              simp only [List.length_singleton, List.getD_cons_zero] at hx0' s1
              clear hone hx0 hxn hxp hxpz hxl
              go_wp2_with fail
              go_meet
              exact ⟨rfl, rfl⟩
            · have hl1f : ((xs.length : Int) == 1) = false := by rw [beq_eq_false_iff_ne]; omega
              have hl1n : ¬ (xs.length : Int) = 1 := by omega
              go_wp2_with fail
              go_meet
              exact ⟨rfl, rfl⟩
          case rest =>
            obtain ⟨rfl, rfl⟩ := hcut
            clear hone
            go_wp2_with fail
            refine (refsmall_any false _ ys z2 w2 (HR2.out.keep HB2.out) HS2.out).mono ?_
            rintro e w3 ⟨m, ok, rfl, hcase, hb3⟩
            have HX3 := Lib.hid (HX2.out.keep hb3)
            have HB3 := Lib.hid (HB2.out.trans (hb3.mono HB2.out.size))
            clear hb3 s0 s1 s2 s3 r0 r1 f0 f1 hc0 hx0'
            have s0 := HX3.out.x0
            have s1 := HX3.out.x1
            have s2 := HX3.out.y0
            have s3 := HX3.out.y1
            have r0 := HX3.out.r0
            have r1 := HX3.out.r1
            have f0 := HX3.out.f0
            have f1 := HX3.out.f1
            have hlt3 := HX3.out.lt
            rcases hcase with ⟨hI, hm, rfl⟩ | ⟨hI, rfl⟩
            · obtain rfl : z2 = m := hm.symm
              by_cases hbig : 1800 < z2
              · have HNS := Lib.hid (show ¬ Small (z1 ^ z2.toNat) from big_pow HT.out (by omega))
                go_wp2_with fail
                have zz := two_setW (x0 := .bool false) (x1 := (.slice none 0 0)) r0 r1
                refine bodyPost_ret (v := .tuple #[.agg #[.bool false, (.slice none 0 0)], .int .i64 7]) (by simp [results, Tryd.results43, go_sem, zz.1, zz.2]) rfl ?_
                exact ⟨false, none, 0, [], 7, rfl, .inl ⟨_, rfl, rfl⟩, (HB3.out.setCell (by simp; omega) _).setCell (by simp; omega) _, .inr ⟨HZ0.out, .inr ⟨HNS.out, rfl⟩⟩⟩
              · obtain ⟨N, rfl⟩ := Int.eq_ofNat_of_zero_le HZ0.out
                have hNt : ((N : Nat) : Int).toNat = N := by omega
                have hNl : N ≤ 1800 := by omega
                have HNT := Lib.hid hNt
                clear hNt
                go_upto_region 13 with (fail)
                generalize hw4 : World.alloc (World.alloc w3 _) _ = w4
                have hb4 : Below w3.heap.size w3 w4 := by rw [← hw4]; exact ((Below.refl _ _).alloc (Nat.le_refl _) _).alloc (by simp) _
                have HO4 := Lib.hid (show Box2 w4 (w3.heap.size + 1) (.bool false) (.slice (some ⟨w3.heap.size, 0, none⟩) 1 1) by rw [← hw4]; exact Box2.new _ _ _ _ (by simp))
                have HR4 := Lib.hid (show Rb w4 (.slice (some ⟨w3.heap.size, 0, none⟩) 1 1) [1] by rw [← hw4]; exact (row_one rfl).alloc _)
                have HB4 := Lib.hid (HB3.out.trans (hb4.mono HB3.out.size))
                have HX4 := Lib.hid (HX3.out.keep hb4)
                clear hw4 hb4 s0 s1 s2 s3 r0 r1 f0 f1 HX3
                have hz3 := HB3.out.size
                obtain ⟨bO, hbO⟩ : ∃ bO, w3.heap.size + 1 = bO := ⟨_, rfl⟩
                have hlo : w.heap.size + 1 + 1 < bO := by omega
                rw [hbO] at HO4 ⊢
                clear hbO hlt3
                go_wp2_with fail
                go_loopw [9] (fun sv wr => ∃ (i : Nat) (m : Bool) (p : Option Addr) (c : Nat) (ds : List Int), sv = .int .i64 i ∧ i ≤ N ∧ RPow w wr bO n1 (.slice (some ⟨b1, o1, none⟩) xs.length c1) xs m p c ds (z1 ^ i)) (fun sv _ => N - (intOf sv).toNat)
                case atStart => exact ⟨0, false, _, 1, [1], by go_num, by omega, ⟨⟨HX4.out.x0, HX4.out.x1⟩, HR1.out.keep HB4.out, HO4.out, HR4.out, by rw [Int.pow_zero]; exact sgn_d1, by rw [Int.pow_zero]; exact small_one false, ⟨HX4.out.r0, HX4.out.r1, HX4.out.f0, HX4.out.f1⟩, hlo, HB4.out⟩⟩
                case round =>
                  obtain ⟨i, m, p, c, ds, rfl, hiN, hP⟩ := hrel
                  obtain ⟨wo, rfl⟩ : ∃ wo : World, wo = wr := ⟨_, rfl⟩
                  have HP := Lib.hid hP
                  have q0 := hP.bx.1
                  have q1 := hP.bx.2
                  have o0 := hP.bo.c0
                  have o1' := hP.bo.c1
                  clear hP
                  by_cases hlt : i < N
                  · have hiz : (i : Int) < (N : Int) := by omega
                    go_wp2_with fail
                    refine (times_any m _ ds (z1 ^ i) n1 _ xs z1 wo HP.out.ro HP.out.rx HP.out.so HS1.out (by have := HP.out.sm.len HP.out.so; omega) (by omega)).mono ?_
                    rintro e w6 ⟨m2, u2, es, rfl, hR6, hS6, hb6⟩
                    obtain ⟨p6, c6, rfl, _, _, _⟩ := rb_form hR6
                    have HR6 := Lib.hid hR6
                    have HS6 := Lib.hid (show Sgn 10 m2 es (z1 ^ (i + 1)) by rw [Int.pow_succ]; exact hS6)
                    have HP6 := Lib.hid (HP.out.keep hb6)
                    clear hR6 hS6 hb6 q0 q1 o0 o1'
                    have o0 := HP6.out.bo.c0
                    have o1' := HP6.out.bo.c1
                    have of0 := HP6.out.bo.f0
                    have of1 := HP6.out.bo.f1
                    go_upto_region 17 with (fail)
                    have hput := HP6.out.bo
                    have HQ := Lib.hid (RPow.put (m2 := m2) (p2 := p6) (c2 := c6) (es := es) HP6.out HR6.out)
                    generalize World.setCell (World.setCell w6 _ _) _ _ = w7 at HQ
                    clear o0 o1' of0 of1 hput
                    have o0 := HQ.out.bo.c0
                    have o1' := HQ.out.bo.c1
                    have HF := Lib.hid (fits_any m2 (.slice p6 es.length c6) es w7 HQ.out.ro)
                    by_cases hsm : Small (z1 ^ (i + 1))
                    · have hlen := hsm.len HS6.out
                      have hdec : decide ((es.length : Int) ≤ 540) = true := by simp; omega
                      have HF2 := Lib.hid (show Calls Tryd.prog 65 #[.agg #[.bool m2, .slice p6 es.length c6]] w7 (BoolPost w7 true) by have h := HF.out; rwa [hdec] at h)
                      clear hlen hdec HF
                      go_wp2_with fail
                      refine HF2.out.mono ?_
                      rintro e w8 ⟨rfl, hb8⟩
                      have HQ8 := Lib.hid (HQ.out.keep hb8)
                      clear hb8 o0 o1'
                      go_wp2_with fail
                      go_roundw
                      case rel => exact ⟨i + 1, m2, p6, c6, es, by go_num, by omega, HQ8.out.1, HQ8.out.2, HQ8.out.3, HQ8.out.4, HS6.out, hsm, HQ8.out.5, HQ8.out.6, HQ8.out.7⟩
                      case measure => simp [intOf]; omega
                    · have hlen : ¬ es.length ≤ 540 := fun h => hsm (HS6.out.fits.1 h)
                      have hdec : decide ((es.length : Int) ≤ 540) = false := by simp; omega
                      have HF2 := Lib.hid (show Calls Tryd.prog 65 #[.agg #[.bool m2, .slice p6 es.length c6]] w7 (BoolPost w7 false) by have h := HF.out; rwa [hdec] at h)
                      have HNS := Lib.hid (show ¬ Small (z1 ^ N) by have h := pow_not_small (b := N - (i + 1)) hsm; rwa [show i + 1 + (N - (i + 1)) = N by omega] at h)
                      clear hlen hdec HF
                      go_wp2_with fail
                      refine HF2.out.mono ?_
                      rintro e w8 ⟨rfl, hb8⟩
                      have HQ8 := Lib.hid (HQ.out.keep hb8)
                      clear hb8 o0 o1'
                      have r0 := HQ8.out.5.c0
                      have r1 := HQ8.out.5.c1
                      have f0 := HQ8.out.5.f0
                      have f1 := HQ8.out.5.f1
                      have HB8 := Lib.hid HQ8.out.7
                      go_wp2_with fail
                      have zz := two_setW (x0 := .bool false) (x1 := (.slice none 0 0)) r0 r1
                      refine bodyPost_ret (v := .tuple #[.agg #[.bool false, (.slice none 0 0)], .int .i64 7]) (by simp [results, Tryd.results43, go_sem, zz.1, zz.2]) rfl ?_
                      exact ⟨false, none, 0, [], 7, rfl, .inl ⟨_, rfl, rfl⟩, (HB8.out.setCell (by simp; omega) _).setCell (by simp; omega) _, .inr ⟨HZ0.out, by rw [HNT.out]; exact .inr ⟨HNS.out, rfl⟩⟩⟩
                  · obtain rfl : i = N := by omega
                    have r0 := HP.out.res.c0
                    have r1 := HP.out.res.c1
                    have f0 := HP.out.res.f0
                    have f1 := HP.out.res.f1
                    go_wp2_with fail
                    have zz := two_setW (x0 := .bool m) (x1 := .slice p ds.length c) r0 r1
                    refine bodyPost_ret (v := .tuple #[.agg #[.bool m, .slice p ds.length c], .int .i64 0]) (by simp [results, Tryd.results43, go_sem, zz.1, zz.2]) rfl ?_
                    exact ⟨m, p, c, ds, 0, rfl, HP.out.ro.put2 HP.out.res _ _, (HP.out.below.setCell (by simp; omega) _).setCell (by simp; omega) _, .inr ⟨HZ0.out, by rw [HNT.out]; exact .inl ⟨HP.out.sm, rfl, HP.out.so⟩⟩⟩
            · have HNS := Lib.hid (show ¬ Small (z1 ^ z2.toNat) from big_pow HT.out (by have := HZ0.out; apply Classical.byContradiction; intro hc; exact hI ⟨by omega, by omega⟩))
              go_wp2_with fail
              have zz := two_setW (x0 := .bool false) (x1 := (.slice none 0 0)) r0 r1
              refine bodyPost_ret (v := .tuple #[.agg #[.bool false, (.slice none 0 0)], .int .i64 7]) (by simp [results, Tryd.results43, go_sem, zz.1, zz.2]) rfl ?_
              exact ⟨false, none, 0, [], 7, rfl, .inl ⟨_, rfl, rfl⟩, (HB3.out.setCell (by simp; omega) _).setCell (by simp; omega) _, .inr ⟨HZ0.out, .inr ⟨HNS.out, rfl⟩⟩⟩
end Go.Proofs.YtapeomcnjjfihaaDoor
