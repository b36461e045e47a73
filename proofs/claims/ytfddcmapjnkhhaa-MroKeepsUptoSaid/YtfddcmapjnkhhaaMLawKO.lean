/- The law of MroKeepsOrders, walked: it answers true and changes nothing that was there. -/
import Derived.Test.YtfddcmapjnkhhaaMPlace
namespace Go.Proofs.Ytfddcmapjnkhhaa
open Go.ChangeShapes Go.WideShapes Go.RowKit
set_option linter.unusedVariables false
set_option linter.unusedSimpArgs false
theorem infoBool : (Try.prog.info? 4).map (fun i => (i.zero, i.size, i.bytes)) = some (some (.bool false), 1, 1) := by kernel_rfl
def flags (m : List Int) (x : Nat) : Value := .bool (decide ((x : Int) ∈ m))
theorem flags_set (m : List Int) (q : Nat) : (fun j => if j = q then Value.bool true else flags m j) = flags ((q : Int) :: m) := by
  funext j
  unfold flags
  by_cases e : j = q
  · subst e; simp
  · rw [if_neg e]
    congr 1
    simp only [List.mem_cons, decide_eq_decide]
    constructor
    · exact .inr
    · rintro (h | h)
      · omega
      · exact h
theorem flags_nil : (fun _ => Value.bool false) = flags [] := by
  funext j; simp [flags]
structure KO (W2 wx : World) (bs : List (List Int)) (c : Int) (l m : List Int) (g N : Nat) : Prop where
  row : wx.rowIs g 4 N (flags m)
  below : Below W2.heap.size W2 wx
theorem KO.next {W2 wx wy : World} {bs : List (List Int)} {c : Int} {l m : List Int} {g N : Nat} (h : KO W2 wx bs c l m g N) (hb : Below wx.heap.size wx wy) : KO W2 wy bs c l m g N :=
  ⟨h.row.of_block (hb.block g h.row.lt), h.below.trans (hb.mono h.below.size)⟩
theorem KO.set {W2 wx : World} {bs : List (List Int)} {c : Int} {l m : List Int} {g N : Nat} (h : KO W2 wx bs c l m g N) (hg : W2.heap.size ≤ g) (q : Nat) : KO W2 (wx.setCell ⟨g, q, none⟩ (.bool true)) bs c l ((q : Int) :: m) g N :=
  ⟨by rw [← flags_set]; exact h.row.set q _, h.below.setCell hg _⟩
theorem orde_ok {bs : List (List Int)} {c b : Int} {o : List Int} (h : ordE bs c = 0) (hb : 0 ≤ b ∧ b < c) (ho : ord bs b = some o) : ordE bs b = 0 := by
  unfold ordE at h
  split at h
  · cases h
  · split at h
    · cases h
    · split at h
      · cases h
      · rename_i h1 h2 h3
        exact ordE0 (by omega) h2 (by cases hb : fitB bs with | true => rfl | false => exact absurd hb h3) ho
theorem orde_parts {bs : List (List Int)} {c : Int} (h : ordE bs c = 0) : 0 ≤ c ∧ c < bs.length ∧ bs.length ≤ 200 ∧ FitP bs ∧ ord bs c = some (ordL bs c) := by
  have h0 := h
  unfold ordE at h
  split at h
  · cases h
  · split at h
    · cases h
    · split at h
      · cases h
      · rename_i h1 h2 h3
        have hf : fitB bs = true := by cases hb : fitB bs with | true => rfl | false => exact absurd hb h3
        cases ho : ord bs c with
        | none => rw [ho] at h; cases h
        | some l => exact ⟨by omega, by omega, by omega, fitB_iff.1 hf, by rw [ordL_ok h0 ho]⟩
set_option maxRecDepth 100000 in
set_option maxHeartbeats 4000000 in
theorem law_ko (u : Value) (bs : List (List Int)) (c : Int) (w : World) (h : Rm w u bs) (hml : ∀ i, (bs.getD i []).length ≤ 17592186043904) (hwc : (Lit.int .i64 c).wf = true) :
    Calls Try.prog 4 #[u, .int .i64 c] w fun e w' => e = .returned (.bool true) ∧ Below w.heap.size w w' := by
  have HR := Lib.hid h
  have HML := Lib.hid hml
  obtain ⟨p, cc, rfl, hx1, hx2, hx3⟩ := rm_form h
  clear h hml hx1 hx2 hx3
  by_cases hE : ordE bs c = 0
  · obtain ⟨hc0, hcl, hle, hf, ho⟩ := orde_parts hE
    have HE := Lib.hid hE
    obtain ⟨n, rfl⟩ := Int.eq_ofNat_of_zero_le hc0
    have hmk := run_make_row' (P := Try.prog) 34 4 (.bool false) 1 Try.underlying34 infoBool rfl .i64 .i64 bs.length (by omega) (by omega)
    have HF := Lib.hid hf
    have HOK := Lib.hid (ord_ok hf _ _ _ hc0 rfl ho)
    have HCL := Lib.hid (ord_cl hf _ _ _ hc0 rfl ho)
    have hln := ordL_len bs (n : Int)
    obtain ⟨l, hl⟩ : ∃ l, ordL bs (n : Int) = l := ⟨_, rfl⟩
    rw [hl] at HOK HCL hln
    have HL := Lib.hid hl
    have hpos : 0 < l.length := by obtain ⟨r, hr⟩ := HOK.out.head; rw [hr]; simp
    have hhead : l.getD 0 0 = (n : Int) := by obtain ⟨r, hr⟩ := HOK.out.head; rw [hr]; simp
    have HH := Lib.hid hhead
    have hnl : n < bs.length := by omega
    clear hE hf ho hl hhead hcl hc0
    go_enter Try.func4, Try.ntmps4
    go_wp2_with fail
    refine (knownM _).mono ?_
    rintro e w1 ⟨rfl, hb1⟩
    have HB1 := Lib.hid hb1
    clear hb1
    go_wp2_with fail
    refine (mroorder_any _ bs (n : Int) _ (HR.out.keep HB1.out) HML.out).mono ?_
    rintro e w2 ⟨u2, rfl, hu2, hb2⟩
    rw [HL.out] at hu2
    rw [HE.out]
    have HU2 := Lib.hid (show Ri w2 u2 l from Mine.ri (OW.mine hu2) (Nat.le_trans hln (by omega)))
    have HB2 := Lib.hid (HB1.out.trans (hb2.mono HB1.out.size))
    clear hu2 hb2
    obtain ⟨p2, c2, rfl, hlc2, _, hp2⟩ := ri_form HU2.out
    obtain ⟨b2, o2, rfl, hcell2⟩ := hp2 hpos
    have hc20 := hcell2 0 hpos
    rw [HH.out, Nat.add_zero] at hc20
    have hlz : ((l.length : Int) == 0) = false := by rw [beq_eq_false_iff_ne]; omega
    have hlp : (0 : Int) < (l.length : Int) := by omega
    have hnz : (n : Int) < (bs.length : Int) := by omega
    have hrow := World.rowIs_made w2 (.bool false) bs.length 4
    have hcn := hrow.cell hnl
    have hfn := hrow.frozen n
    have HROW := Lib.hid hrow
    obtain ⟨px, cx, hex, hx1, hx2, hpx⟩ := rm_form HR.out
    simp only [Value.slice.injEq] at hex
    obtain ⟨rfl, _, rfl⟩ := hex
    obtain ⟨b1, o1, rfl, hrows⟩ := hpx (by omega)
    have HROWS := Lib.hid hrows
    clear hp2 hcell2 hrow hx1 hx2 hpx hrows
    go_wp2_with fail
    clear hcn hfn hmk
    have HK0 := Lib.hid (show KO w2 ((w2.alloc (Obj.cells (madeCells #[Value.bool false] bs.length) 4)).setCell ⟨w2.heap.size, n, none⟩ (.bool true)) bs (n : Int) l [(n : Int)] w2.heap.size bs.length from
      KO.set ⟨by rw [← flags_nil]; exact HROW.out, (Below.refl _ _).alloc (Nat.le_refl _) _⟩ (Nat.le_refl _) n)
    have HK1 := Lib.hid (show KO w2 (w2.alloc (Obj.cells ((madeCells #[Value.bool false] bs.length).setIfInBounds n (Value.bool true)) 4)) bs (n : Int) l [(n : Int)] w2.heap.size bs.length from by
      have h := HK0.out
      rwa [World.setCell_alloc_at _ _ _ _ _ rfl] at h)
    clear HK0
    obtain ⟨g, hg⟩ : ∃ g, g = w2.heap.size := ⟨_, rfl⟩
    rw [← hg] at HK1
    have HG := Lib.hid (Nat.le_of_eq hg.symm)
    rw [← hg]
    clear hg
    go_loopw [8, 9, 10, 11, 12, 13] (fun nn k _ _ _ _ wx => ∃ (z : Int) (m : List Int) (N : Int), k = .int .i64 z ∧ -1 ≤ z ∧ z ≤ n ∧ nn = .int .i64 N ∧ N = m.length ∧ ComeI bs (n : Int) l m z ∧ KO w2 wx bs (n : Int) l m g bs.length) (fun _ k _ _ _ _ _ => (intOf k + 1).toNat)
    case atStart => exact ⟨n, [(n : Int)], 1, rfl, by omega, by omega, rfl, rfl, ComeI.start HOK.out, HK1.out⟩
    case round =>
      obtain ⟨z, m, N, rfl, hz1, hz2, rfl, hN, hCI, hKO⟩ := hrel
      obtain ⟨wo, rfl⟩ : ∃ wo : World, wo = wr := ⟨_, rfl⟩
      have HN := Lib.hid hN
      have HCI := Lib.hid hCI
      have HKO := Lib.hid hKO
      clear hN hCI hKO
      by_cases hz0 : 0 ≤ z
      · obtain ⟨q, rfl⟩ := Int.eq_ofNat_of_zero_le hz0
        have hqb : q < bs.length := by omega
        have hqbz : (q : Int) < (bs.length : Int) := by omega
        have hcq := HKO.out.row.cell hqb
        unfold flags at hcq
        by_cases hm : (q : Int) ∈ m
        · simp only [hm, decide_true] at hcq
          have HM := Lib.hid hm
          have hql := HCI.out.sub _ hm
          have HPL := Lib.hid (place_any _ l (q : Int) wo (HU2.out.keep HKO.out.below))
          obtain ⟨pl, hpl⟩ : ∃ pl, placeI l (q : Int) = pl := ⟨_, rfl⟩
          have hpl0 := place_mem hql
          rw [hpl] at HPL hpl0
          have hpl1 : ¬ pl < 0 := by omega
          obtain ⟨uq, hcu, hru⟩ := HROWS.out q hqb
          have hBx := HB2.out.trans (HKO.out.below.mono HB2.out.size)
          have HBX := Lib.hid hBx
          have hcx := below_cell hBx hcu
          obtain ⟨bl, hbl⟩ : ∃ bl, bs.getD q [] = bl := ⟨_, rfl⟩
          rw [hbl] at hru
          have HBL := Lib.hid (show bs.getD (q : Int).toNat [] = bl from hbl)
          have HRU := Lib.hid (hru.keep hBx)
          have HRU0 := Lib.hid hru
          obtain ⟨pq, cq, rfl, hx1, hx2, hpq⟩ := ri_form HRU.out
          have HPQ := Lib.hid hpq
          have HCU := Lib.hid hcu
          have HFA := Lib.hid (show FitAt q bl from by rw [← hbl]; exact HF.out.at q)
          have hbll : bl.length ≤ 200 := by rw [← hbl]; exact Nat.le_trans (fit_len HF.out q) (by omega)
          have HKS := Lib.hid (keeps_yes _ _ l bl wo (HU2.out.keep HKO.out.below) HRU.out (by rw [← hbl]; exact HCL.out.sub _ hql) HOK.out.nodup)
          have HORDS := Lib.hid (show ∀ b ∈ bl, ∃ o, ord bs b = some o ∧ o.Sublist l from by rw [← hbl]; exact HCL.out.ords _ hql)
          have HSUB := Lib.hid (show bl.Sublist l from by rw [← hbl]; exact HCL.out.sub _ hql)
          clear hbl hru hx1 hx2 hpq hBx hpl hpl0 hql hm hcu
          go_wp2_with (first | (go_at_call 12; (with_reducible refine HPL.out.mono ?_); rintro e w' ⟨rfl, rfl⟩) | (go_at_call 13; (with_reducible refine HKS.out.mono ?_); rintro e w' ⟨rfl, rfl⟩))
          have HCX := Lib.hid hcx
          clear hcx hcq hpl1
          go_loopw [8, 10, 11, 12, 13] (fun nn i _ _ _ wx => ∃ (j : Nat) (m2 : List Int) (N2 : Int), i = .int .i64 j ∧ j ≤ bl.length ∧ nn = .int .i64 N2 ∧ N2 = m2.length ∧ ComeJ bs (n : Int) l m2 (q : Int) j ∧ KO w2 wx bs (n : Int) l m2 g bs.length) (fun _ i _ _ _ _ => bl.length - (intOf i).toNat)
          case atStart => exact ⟨0, m, N, rfl, by omega, rfl, HN.out, ComeJ.start HCI.out, HKO.out⟩
          case round =>
            obtain ⟨j, m2, N2, rfl, hjl, rfl, hN2, hCJ, hKJ⟩ := hrel
            have HN2 := Lib.hid hN2
            have HCJ := Lib.hid hCJ
            have HKJ := Lib.hid hKJ
            have HBY := Lib.hid (HB2.out.trans (hKJ.below.mono HB2.out.size))
            have hcx := below_cell HBY.out HCU.out
            clear hN2 hCJ hKJ
            by_cases hj : j < bl.length
            · have hjz : (j : Int) < (bl.length : Int) := by omega
              obtain ⟨pz, cz, he3, hx1, hx2, hcell3⟩ := ri_form ((HRU0.out).keep HBY.out)
              simp only [Value.slice.injEq] at he3
              obtain ⟨rfl, _, rfl⟩ := he3
              obtain ⟨b3, o3, rfl, hcell4⟩ := hcell3 (by omega)
              have hcy := hcell4 j hj
              have hbj := fitAt_at HFA.out hj
              have hmem := getD_mem hj
              obtain ⟨r, hr⟩ := Int.eq_ofNat_of_zero_le hbj.1
              rw [hr] at hcy hbj hmem
              have HRJ := Lib.hid hr
              obtain ⟨o, ho, hos⟩ := HORDS.out _ hmem
              have HOS := Lib.hid hos
              have hrl := HSUB.out.subset hmem
              have HEB := Lib.hid (orde_ok HE.out (b := (r : Int)) (by have h1 := HOK.out.lo _ hrl; omega) ho)
              have HLB := Lib.hid (ordL_ok HEB.out ho)
              have hol : o.length ≤ 200 := by rw [← HLB.out]; exact ordL_len _ _
              have hrb : r < bs.length := by omega
              have hrbz : (r : Int) < (bs.length : Int) := by omega
              have hcr := HKJ.out.row.cell hrb
              have hfr := HKJ.out.row.frozen r
              have HRL := Lib.hid hrl
              unfold flags at hcr
              clear hx1 hx2 hcell3 hcell4 hr hmem ho hos hrl
              have hqr := hbj.2
              clear hbj
              by_cases hrm : (r : Int) ∈ m2
              · simp only [hrm, decide_true] at hcr
                have HRM := Lib.hid hrm
                clear hrm
                have HKZ := Lib.hid (HKJ.out)
                have HJZ := Lib.hid (HCJ.out.old (by rw [HBL.out]; exact hj) (by rw [HBL.out]; exact HRJ.out) HRM.out)
                go_wp2_with fail
                refine (mroorder_any _ bs (r : Int) _ (HR.out.keep (HB2.out.trans (HKZ.out.below.mono HB2.out.size))) HML.out).mono ?_
                rintro e w3 ⟨u3, rfl, hu3, hb3⟩
                rw [HLB.out] at hu3
                rw [HEB.out]
                have HKY := Lib.hid (HKZ.out.next hb3)
                have HU3 := Lib.hid (show Ri w3 u3 o from Mine.ri (OW.mine hu3) (Nat.le_trans hol (by omega)))
                clear hu3 hb3
                obtain ⟨p3, c3, rfl, hx1, hx2, hx3⟩ := ri_form HU3.out
                clear hx1 hx2 hx3
                go_wp2_with fail
                refine (keeps_yes _ _ l o _ (HU2.out.keep HKY.out.below) HU3.out HOS.out HOK.out.nodup).mono ?_
                rintro e w4 ⟨rfl, rfl⟩
                go_wp2_with fail
                go_roundw
                case rel => exact ⟨j + 1, m2, N2, by go_num, by omega, rfl, by first | (rw [List.length_cons, HN2.out]; omega) | exact HN2.out, HJZ.out, HKY.out⟩
                case measure => (first | (simp [intOf]; done) | (simp [intOf]; omega))
              · simp only [hrm, decide_false] at hcr
                have HRM := Lib.hid hrm
                have hml2 : m2.length ≤ 200 := by
                  have h1 := nodup_len bs.length m2 HCJ.out.come.nodup fun x hx => by
                    have h2 := HOK.out.lo x (HCJ.out.come.sub x hx)
                    omega
                  omega
                have hN20 : 0 ≤ N2 ∧ N2 ≤ 200 := by have := HN2.out; omega
                obtain ⟨hN21, hN22⟩ := hN20
                clear hrm
                have HKZ := Lib.hid (HKJ.out.set HG.out r)
                have HJZ := Lib.hid (HCJ.out.new (by rw [HBL.out]; exact hj) (by rw [HBL.out]; exact HRJ.out) HRM.out HRL.out)
                go_wp2_with fail
                refine (mroorder_any _ bs (r : Int) _ (HR.out.keep (HB2.out.trans (HKZ.out.below.mono HB2.out.size))) HML.out).mono ?_
                rintro e w3 ⟨u3, rfl, hu3, hb3⟩
                rw [HLB.out] at hu3
                rw [HEB.out]
                have HKY := Lib.hid (HKZ.out.next hb3)
                have HU3 := Lib.hid (show Ri w3 u3 o from Mine.ri (OW.mine hu3) (Nat.le_trans hol (by omega)))
                clear hu3 hb3
                obtain ⟨p3, c3, rfl, hx1, hx2, hx3⟩ := ri_form HU3.out
                clear hx1 hx2 hx3
                go_wp2_with fail
                refine (keeps_yes _ _ l o _ (HU2.out.keep HKY.out.below) HU3.out HOS.out HOK.out.nodup).mono ?_
                rintro e w4 ⟨rfl, rfl⟩
                go_wp2_with fail
                go_roundw
                case rel => exact ⟨j + 1, (r : Int) :: m2, N2 + 1, by go_num, by omega, rfl, by first | (rw [List.length_cons, HN2.out]; omega) | exact HN2.out, HJZ.out, HKY.out⟩
                case measure => (first | (simp [intOf]; done) | (simp [intOf]; omega))
            · have hjz : ¬ (j : Int) < (bl.length : Int) := by omega
              go_wp2_with fail
              go_roundw
              case rel => exact ⟨(q : Int) - 1, m2, N2, by go_num, by omega, by omega, rfl, HN2.out, HCJ.out.done (by rw [HBL.out]; omega) (by omega), HKJ.out⟩
              case measure => (first | (simp [intOf]; done) | (simp [intOf]; omega))
        · simp only [hm, decide_false] at hcq
          have HM := Lib.hid hm
          clear hm
          go_wp2_with fail
          go_roundw
          case rel => exact ⟨(q : Int) - 1, m, N, by go_num, by omega, by omega, rfl, HN.out, HCI.out.skip HF.out HOK.out HCL.out HM.out, HKO.out⟩
          case measure => (first | (simp [intOf]; done) | (simp [intOf]; omega))
      · obtain rfl : z = -1 := by omega
        obtain rfl : N = l.length := by rw [HN.out, HCI.out.fin HOK.out HCL.out]
        have HBX := Lib.hid (HB2.out.trans (HKO.out.below.mono HB2.out.size))
        go_wp2_with fail
        go_ret
        exact ⟨rfl, HBX.out⟩
  · obtain ⟨er, her⟩ : ∃ er, ordE bs c = er := ⟨_, rfl⟩
    have HE := Lib.hid her
    have HL := Lib.hid (ordL_bad hE)
    have hz : (er == 0) = false := by rw [beq_eq_false_iff_ne, ← her]; exact hE
    have hz2 : (er != 0) = true := by rw [bne_iff_ne, ← her]; exact hE
    clear hE her
    go_enter Try.func4, Try.ntmps4
    go_wp2_with fail
    refine (knownM _).mono ?_
    rintro e w1 ⟨rfl, hb1⟩
    have HB1 := Lib.hid hb1
    clear hb1
    go_wp2_with fail
    refine (mroorder_any _ bs c _ (HR.out.keep HB1.out) HML.out).mono ?_
    rintro e w2 ⟨u2, rfl, hu2, hb2⟩
    rw [HL.out] at hu2
    rw [HE.out]
    have HB2 := Lib.hid (HB1.out.trans (hb2.mono HB1.out.size))
    obtain ⟨p2, c2, rfl, hx1, hx2, hx3⟩ := ri_form (Mine.ri (OW.mine hu2) (by simp))
    clear hu2 hb2 hx1 hx2 hx3
    go_wp2_with fail
    go_ret
    exact ⟨rfl, HB2.out⟩
end Go.Proofs.Ytfddcmapjnkhhaa
