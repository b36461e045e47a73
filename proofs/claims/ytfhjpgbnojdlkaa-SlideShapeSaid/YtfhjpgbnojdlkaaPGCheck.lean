/- When the sizes of a memory or its first word are wrong, Check answers ErrForm. The contract of Check: it answers 0 where the memory is in form, else ErrForm. -/
import Derived.Test.YtfhjpgbnojdlkaaPGStarts
namespace Go.Proofs.Ytfhjpgbnojdlkaa
section
open Go.ChangeShapes Go.WideShapes Go.ChangeAt Go.RowKit
set_option linter.unusedVariables false
set_option linter.unusedSimpArgs false

def tags (ws : List Int) (a : Nat) : List Int := (ws.drop (a + 2)).take (hT (headAt ws a)).toNat
def wordsOk (ws : List Int) (l : List Nat) : Bool := l.all fun a => (tags ws a).all (rightW l)
def shapeOk (ws : List Int) : Bool := match scan ws 1 with | none => false | some l => wordsOk ws l
def sizesOk (ws : List Int) (top : Int) : Bool := decide (2 ≤ ws.length ∧ ws.length ≤ 1048576 ∧ 1 ≤ top ∧ top ≤ ws.length ∧ ws.getD 0 0 = 0)
def memOk (ws : List Int) (top : Int) : Bool := sizesOk ws top && ((ws.drop top.toNat).all (· == 0) && shapeOk (ws.take top.toNat))

def checkE (ws : List Int) (top : Int) : Int := if memOk ws top then 0 else 3
theorem checkE_lo (ws : List Int) (top : Int) : 0 ≤ checkE ws top ∧ checkE ws top ≤ 3 := by unfold checkE; split <;> omega
theorem sizeU64 : ∀ wx, (sizeOf (Try.prog.elem 22)).run Try.prog wx = .ok 1 wx := fun wx => by kernel_rfl
theorem sliceU64 : Try.prog.underlying 22 = some (.slice (Try.prog.elem 22)) := by kernel_rfl
theorem cell_alloc1 {w : World} {a : Addr} {v : Value} {w1 : World} {o : Obj} (hb : Below (w.alloc o).heap.size (w.alloc o) w1) (h : (w.alloc o).cell? a = some v) : w1.cell? a = some v := below_cell hb h

set_option maxRecDepth 100000 in
set_option maxHeartbeats 1000000 in
theorem check_no (v : Value) (ws : List Int) (top : Int) (w : World) (hr : Rd w v ws) (hf : Fit ws) (ht : -9223372036854775808 ≤ top ∧ top ≤ 9223372036854775807) (hno : sizesOk ws top = false) :
    Calls Try.prog 22 #[.agg #[v, .int .i64 top]] w fun e w' => e = .returned (.int .i64 3) ∧ Below w.heap.size w w' := by
  simp only [sizesOk, decide_eq_false_iff_not] at hno
  by_cases h1 : ws.length < 2
  · rcases hr with ⟨p0, rfl, rfl⟩ | ⟨b, off, c, rfl, hl, hc, hcell⟩
    · go_enter Try.func22, Try.ntmps22
      go_wp2_with fail
      go_ret
      exact ⟨rfl, (Below.refl _ _).alloc (Nat.le_refl _) _⟩
    · clear hcell
      go_enter Try.func22, Try.ntmps22
      go_wp2_with fail
      go_ret
      exact ⟨rfl, (Below.refl _ _).alloc (Nat.le_refl _) _⟩
  · obtain ⟨b, off, c, rfl, hl, hc, hcell⟩ := hr.some (by omega)
    have hc0 := fun o => alloc_cell (hcell 0 (by omega)) o
    rw [Nat.add_zero] at hc0
    clear hcell hr
    by_cases h2 : 1048576 < ws.length
    · go_enter Try.func22, Try.ntmps22
      go_wp2_with fail
      go_ret
      exact ⟨rfl, (Below.refl _ _).alloc (Nat.le_refl _) _⟩
    · by_cases h3 : top < 1
      · go_enter Try.func22, Try.ntmps22
        go_wp2_with fail
        go_ret
        exact ⟨rfl, (Below.refl _ _).alloc (Nat.le_refl _) _⟩
      · by_cases h4 : (ws.length : Int) < top
        · go_enter Try.func22, Try.ntmps22
          go_wp2_with fail
          go_ret
          exact ⟨rfl, (Below.refl _ _).alloc (Nat.le_refl _) _⟩
        · have h5 : ws.getD 0 0 ≠ 0 := fun e => hno ⟨by omega, by omega, by omega, by omega, e⟩
          generalize ws.getD 0 0 = x at *
          have h6 : (x != 0) = true := by simpa using h5
          have j0 : 0 < ws.length := by omega
          clear h5 hno
          go_enter Try.func22, Try.ntmps22
          go_wp2_with fail
          go_ret
          exact ⟨rfl, (Below.refl _ _).alloc (Nat.le_refl _) _⟩
end
section
open Go.ChangeShapes Go.WideShapes Go.ChangeAt Go.RowKit
set_option linter.unusedVariables false
set_option linter.unusedSimpArgs false

/-- The loop of Check. -/
structure CS (w : World) (top : Int) (u : Value) (ws : List Int) (l : List Nat) (g : Nat) (B : Nat) (k : Nat) (done rest : List Nat) (wr : World) : Prop where
  split : l = done ++ rest
  rest : scan ws k = some rest
  ok : (done.all fun a => (tags ws a).all (rightW l)) = true
  one : 1 ≤ k
  le : k ≤ ws.length
  box : wr.cell? ⟨w.heap.size, 1, none⟩ = some (.int .i64 top)
  view : wr.cell? ⟨B, 0, none⟩ = some u
  row : StartsRow wr g (ws.length / 64 + 1) l
  below : Below w.heap.size w wr
theorem CS.drewN {w : World} {top : Int} {u : Value} {ws : List Int} {l : List Nat} {g B k : Nat} {done rest : List Nat} {wr : World} (h : CS w top u ws l g B k done rest wr) (q : Nat) : CS w top u ws l g B k done rest (wr.drewN q) :=
  ⟨h.split, h.rest, h.ok, h.one, h.le, h.box, h.view, h.row, below_drewN h.below q⟩
theorem CS.keep {w : World} {top : Int} {u : Value} {ws : List Int} {l : List Nat} {g B k : Nat} {done rest : List Nat} {wr w1 : World} (h : CS w top u ws l g B k done rest wr) (hb : Below wr.heap.size wr w1) : CS w top u ws l g B k done rest w1 :=
  ⟨h.split, h.rest, h.ok, h.one, h.le, below_cell hb h.box, below_cell hb h.view, h.row.keep hb, h.below.trans (hb.mono h.below.size)⟩

set_option maxRecDepth 100000 in
set_option maxHeartbeats 1000000 in
theorem check_yes (v : Value) (ws : List Int) (top : Int) (w : World) (hr : Rd w v ws) (hf : Fit ws) (hyes : sizesOk ws top = true) :
    Calls Try.prog 22 #[.agg #[v, .int .i64 top]] w fun e w' => e = .returned (.int .i64 (checkE ws top)) ∧ Below w.heap.size w w' := by
  have hm : memOk ws top = ((ws.drop top.toNat).all (· == 0) && shapeOk (ws.take top.toNat)) := by simp only [memOk, hyes, Bool.true_and]
  have hce : checkE ws top = if ((ws.drop top.toNat).all (· == 0) && shapeOk (ws.take top.toNat)) = true then 0 else 3 := by unfold checkE; rw [hm]
  clear hm
  simp only [sizesOk, decide_eq_true_eq] at hyes
  obtain ⟨g1, g2, g3, g4, g5⟩ := hyes
  obtain ⟨n, rfl⟩ := Int.eq_ofNat_of_zero_le (by omega : 0 ≤ top)
  rw [Int.toNat_natCast] at hce
  have HCE := Lib.hid hce
  clear hce
  have g6 : 1 ≤ n := by omega
  have g7 : n ≤ ws.length := by omega
  clear g3 g4
  obtain ⟨b, off, c, rfl, hl, hc, hcell⟩ := hr.some (by omega)
  have HR := Lib.hid hr
  have hc0 := fun o => alloc_cell (hcell 0 (by omega)) o
  rw [Nat.add_zero, g5] at hc0
  have j0 : 0 < ws.length := by omega
  obtain ⟨o', ho', hsl⟩ := sl_from (P := Try.prog) 22 sliceU64 sizeU64 b off ws.length c n g7 hl
  have HZ : Hid (Rd w (.slice (some ⟨b, o', none⟩) (ws.length - n) (c - n)) (ws.drop n)) := by
    have := hr.cut n (ws.length - n) o' (by omega) ho'
    rwa [show (ws.drop n).take (ws.length - n) = ws.drop n by rw [List.take_of_length_le (by rw [List.length_drop]; omega)]] at this
  clear hcell hr g5 ho'
  go_enter Try.func22, Try.ntmps22
  go_wp2_with fail
  refine (allzero _ (ws.drop n) _ (HZ.out.alloc _) (hf.drop n)).mono ?_
  rintro e w1 ⟨rfl, q, rfl⟩
  clear hsl hc0
  by_cases hz : (ws.drop n).all (· == 0) = true
  · have Hz := Lib.hid hz
    rw [hz]
    clear hz
    go_wp2_with fail
    have hA : Below w.heap.size w ((w.alloc (Obj.cells #[Value.slice (some ⟨b, off, none⟩) ws.length c, Value.int IntKind.i64 n] 24)).drewN q) := below_drewN ((Below.refl _ _).alloc (Nat.le_refl _) _) _
    refine (viewof _ ws n _ (HR.out.keep hA) (by omega) (by omega)).mono ?_
    rintro e w1 ⟨u, rfl, hu, hb1⟩
    rw [Int.toNat_natCast] at hu
    have hu := hu.keep hb1
    have hB := hA.trans (hb1.mono hA.size)
    have hbox : w1.cell? ⟨w.heap.size, 1, none⟩ = some (.int .i64 n) := below_cell hb1 (by simp)
    have hsz : w.heap.size + 1 ≤ w1.heap.size := by have := hb1.size; simpa using this
    clear hA hb1
    have hlt : (ws.take n).length = n := by rw [List.length_take]; omega
    have hft := hf.take n
    generalize ws.take n = vs at *
    have Hu := Lib.hid hu
    obtain ⟨b2, off2, c2, rfl, hl2, hc2, hcell2⟩ := hu.some (by omega)
    rw [hlt] at hl2
    have Hlt := Lib.hid hlt
    rw [hlt] at Hu hcell2
    clear hu hlt
    go_wp2_with fail
    rw [Hlt.out]
    refine (find _ vs _ (Hu.out.alloc _) hft (by rw [Hlt.out]; omega)).mono ?_
    rintro e w2 ⟨hb2, hfound⟩
    have hbox2 : w2.cell? ⟨w.heap.size, 1, none⟩ = some (.int .i64 n) := below_cell hb2 (alloc_cell hbox _)
    have hB1 := hB.alloc (Nat.le_trans (Nat.le_add_right _ 1) hsz) (Obj.cells #[Value.slice (some ⟨b2, off2, none⟩) n c2] 92)
    rcases hfound with ⟨hsc, rfl⟩ | ⟨l, g, hsc, rfl, hg, hrow⟩
    · have hno : Hid (shapeOk vs = false) := by unfold Hid; simp only [shapeOk, hsc]
      clear hsc
      go_wp2_with fail
      go_ret
      exact ⟨by rw [HCE.out, hno.out, Bool.and_false]; rfl, hB1.trans (hb2.mono hB1.size)⟩
    · have hview : w2.cell? ⟨w1.heap.size, 0, none⟩ = some (.slice (some ⟨b2, off2, none⟩) n c2) := below_cell hb2 (by simp)
      have hB2 := hB1.trans (hb2.mono hB1.size)
      have Hat : Hid (∀ i, i < n → ∀ wx : World, Below w2.heap.size w2 wx → wx.cell? ⟨b2, off2 + i, none⟩ = some (.int .u64 (vs.getD i 0))) :=
        fun i hi wx hx => below_cell hx (below_cell hb2 (alloc_cell (hcell2 i hi) _))
      have HRv : Hid (∀ wx : World, Below w2.heap.size w2 wx → Rd wx (.slice (some ⟨b2, off2, none⟩) n c2) vs) := fun wx hx => ((Hu.out.alloc _).keep hb2).keep hx
      have hrow' : StartsRow w2 g (vs.length / 64 + 1) l := hrow
      have HS0 : Hid (CS w n (.slice (some ⟨b2, off2, none⟩) n c2) vs l g w1.heap.size 1 [] l w2) :=
        ⟨rfl, hsc, rfl, Nat.le_refl _, by rw [Hlt.out]; omega, hbox2, hview, hrow, hB2⟩
      have HSC := Lib.hid hsc
      have HIN : Hid (∀ x ∈ l, x < vs.length) := scan_lt hsc
      clear hbox2 hview hB2 hcell2 hrow hrow' hb2 hB1 hbox hB hsc
      rw [Hlt.out]
      go_wp2_with fail
      go_loopw [6] (fun i wr => ∃ k done rest, i = .int .i64 (k : Nat) ∧ CS w n (.slice (some ⟨b2, off2, none⟩) n c2) vs l g w1.heap.size k done rest wr ∧ Below w2.heap.size w2 wr) (fun i _ => n - (intOf i).toNat)
      case atStart => exact ⟨1, [], l, by go_num, HS0.out, Below.refl _ _⟩
      case round =>
        obtain ⟨k, done, rest, rfl, hS, hW⟩ := hrel
        have k1 := hS.one
        have kl := hS.le
        rw [Hlt.out] at kl
        have hbx := hS.box
        have hvw := hS.view
        by_cases hlt : k < n
        · have hok : okAt vs k = true := by
            cases ho : okAt vs k
            · have := hS.rest
              rw [scan_bad (by rw [Hlt.out]; omega) ho] at this
              cases this
            · rfl
          obtain ⟨rest', hrest', hrl⟩ : ∃ rest', rest = k :: rest' ∧ scan vs (k + sz vs k) = some rest' := by
            have := hS.rest
            rw [scan_ok (by rw [Hlt.out]; omega) hok] at this
            cases hh : scan vs (k + sz vs k) with
            | none => rw [hh] at this; cases this
            | some r => rw [hh] at this; exact ⟨r, by simpa using this.symm, rfl⟩
          have hsz := okAt_sz hok
          rw [Hlt.out] at hsz
          have hh : 0 ≤ headAt vs k ∧ headAt vs k ≤ 18446744073709551615 := by unfold headAt; split; exact hft.at _; omega
          have q2 := hT_lo (headAt vs k)
          have q3 := hS_lo (headAt vs k)
          obtain ⟨T, hT⟩ := Int.eq_ofNat_of_zero_le q2.1
          have HSZ := Lib.hid hsz
          have s1 : 2 ≤ sz vs k := hsz.2.1
          have s2 : k + sz vs k ≤ n := hsz.2.2.1
          have s3 : k + 2 + T ≤ n := by have a1 := hsz.2.2.2.1; have a2 := hsz.2.2.2.2; omega
          obtain ⟨o2, ho2, hsl2⟩ := sl_mid (P := Try.prog) 22 sliceU64 sizeU64 b2 off2 n c2 (k + 2) T (by omega)
          rw [show ((k + 2 : Nat) : Int) = (k : Int) + 2 by omega] at hsl2
          have HR2 : Hid (∀ wx : World, Below w2.heap.size w2 wx → Rd wx (.slice (some ⟨b2, o2, none⟩) T (c2 - (k + 2))) (tags vs k)) := fun wx hx => by
            have := (HRv.out wx hx).cut (k + 2) T o2 (by omega) ho2
            simpa [tags, hT] using this
          have HT := Lib.hid hT
          clear hsz hT ho2
          go_wp2_with fail
          refine (look_any _ vs _ _ (HRv.out _ hW) hft).mono ?_
          rintro e w3 ⟨rfl, hb3⟩
          have hS3 := hS.keep hb3
          have hW3 := hW.trans (hb3.mono hW.size)
          clear hS hW hb3 hbx hvw
          have hbx := hS3.box
          have hvw := hS3.view
          go_wp2_with fail
          have hfit : Fit (tags vs k) := (hft.drop _).take _
          have hn64 : n / 64 + 1 ≤ 1048576 := by omega
          have HROW : Hid (StartsRow w3 g (n / 64 + 1) l) := by have := hS3.row; rw [Hlt.out] at this; exact this
          have HL : Hid (∀ x ∈ l, x / 64 < n / 64 + 1) := fun x hx => by
            have := HIN.out x hx; rw [Hlt.out] at this; omega
          have hTT := HT.out
          have i1 : IntKind.i64.wrap ((k : Int) + 2) = (k : Int) + 2 := IntWalk.i64_in _ (by omega)
          have i2 : IntKind.i64.wrap ((k : Int) + 2 + (T : Int)) = (k : Int) + 2 + (T : Int) := IntWalk.i64_in _ (by omega)
          by_cases hall : (tags vs k).all (rightW l) = true
          · have hyes : Hid (CS w n (.slice (some ⟨b2, off2, none⟩) n c2) vs l g w1.heap.size (k + sz vs k) (done ++ [k]) rest' w3) :=
              ⟨by rw [hS3.split, hrest', List.append_assoc]; rfl, hrl, by rw [List.all_append, hS3.ok]; simp only [List.all_cons, List.all_nil, hall]; rfl, by omega, by rw [Hlt.out]; exact s2, hS3.box, hS3.view, hS3.row, hS3.below⟩
            go_quiet ((first | (go_at_call 61; exact quiet_same (htag _ hh _)) | (go_at_call 60; exact quiet_same (rightwords _ (tags vs k) g (n / 64 + 1) l _ (HR2.out _ (below_drewN hW3 _)) hfit hn64 HROW.out (HL.out)))))
            rw [hall]
            clear hall i1 i2 hTT
            go_wp2_with fail
            refine (hsize _ hh _).mono ?_
            rintro e w4 ⟨rfl, rfl⟩
            have hsz3 := HSZ.out.2.2.2.1
            have HSZ3 := Lib.hid hsz3
            clear hsz3 HSZ
            go_wp2_with fail
            go_roundw
            case rel => exact ⟨k + sz vs k, done ++ [k], rest', by rw [← HSZ3.out]; go_num, hyes.out.drewN _, below_drewN hW3 _⟩
            case measure => rw [← HSZ3.out]; simp [intOf]; omega
          · have hall' : (tags vs k).all (rightW l) = false := by simpa using hall
            have hno : Hid (shapeOk vs = false) := by
              unfold Hid shapeOk
              rw [HSC.out]
              simp only [wordsOk, List.all_eq_false]
              exact ⟨k, by rw [hS3.split, hrest']; simp, by rw [hall']; simp⟩
            clear hall
            go_quiet ((first | (go_at_call 61; exact quiet_same (htag _ hh _)) | (go_at_call 60; exact quiet_same (rightwords _ (tags vs k) g (n / 64 + 1) l _ (HR2.out _ (below_drewN hW3 _)) hfit hn64 HROW.out (HL.out)))))
            rw [hall']
            clear hall' i1 i2 hTT
            go_wp2_with fail
            go_ret
            exact ⟨by rw [HCE.out, hno.out, Bool.and_false]; rfl, below_drewN hS3.below _⟩
        · have hyes : Hid (shapeOk vs = true) := by
            unfold Hid shapeOk
            rw [HSC.out]
            have := hS.rest
            rw [scan_end (by rw [Hlt.out]; omega)] at this
            have e : rest = [] := by simpa using this.symm
            have e2 := hS.split
            rw [e, List.append_nil] at e2
            rw [e2]
            exact e2 ▸ hS.ok
          go_wp2_with fail
          go_ret
          exact ⟨by rw [HCE.out, hyes.out, Hz.out]; rfl, hS.below⟩
  · have hz' : (ws.drop n).all (· == 0) = false := by simpa using hz
    have Hz := Lib.hid hz'
    rw [hz']
    clear hz hz'
    go_wp2_with fail
    go_ret
    exact ⟨by rw [HCE.out, Hz.out]; rfl, below_drewN ((Below.refl _ _).alloc (Nat.le_refl _) _) _⟩

theorem check_any (v : Value) (ws : List Int) (top : Int) (w : World) (hr : Rd w v ws) (hf : Fit ws) (ht : -9223372036854775808 ≤ top ∧ top ≤ 9223372036854775807) :
    Calls Try.prog 22 #[.agg #[v, .int .i64 top]] w fun e w' => e = .returned (.int .i64 (checkE ws top)) ∧ Below w.heap.size w w' := by
  by_cases h : sizesOk ws top = true
  · exact check_yes v ws top w hr hf h
  · have h' : sizesOk ws top = false := by simpa using h
    have e : checkE ws top = 3 := by unfold checkE memOk; rw [h']; rfl
    rw [e]
    exact check_no v ws top w hr hf ht h'
end
end Go.Proofs.Ytfhjpgbnojdlkaa
