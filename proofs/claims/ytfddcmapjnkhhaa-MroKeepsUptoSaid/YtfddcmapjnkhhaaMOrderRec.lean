/- Layer 19: the program's order: it keeps what it finds. -/
import Derived.Test.YtfddcmapjnkhhaaMKnown
namespace Go.Proofs.Ytfddcmapjnkhhaa
open Go.ChangeShapes Go.WideShapes Go.RowKit
set_option linter.unusedVariables false
set_option linter.unusedSimpArgs false
theorem Mine.rt {w : World} {B0 : Nat} {u : Value} {x : Int} {mo : List Int} (h : Mine .i64 3 w B0 u (x :: mo)) (hl : (x :: mo).length ≤ 17592186043904) : Rt w u (x :: mo) := by
  refine ⟨h.ri hl, fun b off s n c e => ?_⟩
  rcases h with ⟨rfl, h0⟩ | ⟨g, c', cur, rfl, h1, h2, h3, h4, h5⟩
  · simp at e
  · simp only [Value.slice.injEq, Option.some.injEq, Addr.mk.injEq] at e
    obtain ⟨⟨rfl, _⟩, _⟩ := e
    first | exact ⟨_, h4⟩ | exact ⟨_, h3⟩
def ROk (W : World) (m : Nat) (bs : List (List Int)) (c : Int) (f : Int → Option Value) (w' : World) : Prop :=
  Only m W w' ∧ ∃ f', Kn Try.prog 3 w' m bs f' ∧ ∀ x, c < x → f' x = f x
def RPost (W : World) (m : Nat) (bs : List (List Int)) (c : Int) (f : Int → Option Value) (e : Ending) (w' : World) : Prop :=
  ROk W m bs c f w' ∧ (ord bs c = none → e = .returned (.tuple #[.slice none 0 0, .bool false])) ∧ ∀ l, ord bs c = some l → ∃ u, e = .returned (.tuple #[u, .bool true]) ∧ Rt w' u l
theorem RPost.ok {W w' : World} {m : Nat} {bs : List (List Int)} {c : Int} {f : Int → Option Value} {l : List Int} {u : Value} (h : ROk W m bs c f w') (ho : ord bs c = some l) (hr : Rt w' u l) : RPost W m bs c f (.returned (.tuple #[u, .bool true])) w' :=
  ⟨h, fun h => by { rw [ho] at h; cases h }, fun l' h => by { rw [ho] at h; cases h; exact ⟨_, rfl, hr⟩ }⟩
theorem RPost.bad {W w' : World} {m : Nat} {bs : List (List Int)} {c : Int} {f : Int → Option Value} (h : ROk W m bs c f w') (ho : ord bs c = none) : RPost W m bs c f (.returned (.tuple #[.slice none 0 0, .bool false])) w' :=
  ⟨h, fun _ => rfl, fun l' h => by { rw [ho] at h; cases h }⟩
theorem ROk.mono {W w' : World} {m : Nat} {bs : List (List Int)} {c c' : Int} {f : Int → Option Value} (h : ROk W m bs c f w') (hc : c ≤ c') : ROk W m bs c' f w' := by
  obtain ⟨h1, f', h2, h3⟩ := h
  exact ⟨h1, f', h2, fun x hx => h3 x (by omega)⟩
theorem ROk.trans {a b d : World} {m : Nat} {bs : List (List Int)} {c : Int} {f f' : Int → Option Value} (h : Only m a b) (hf : ∀ x, c < x → f' x = f x) (k : ROk b m bs c f' d) : ROk a m bs c f d := by
  obtain ⟨h1, f2, h2, h3⟩ := k
  exact ⟨h.trans h1, f2, h2, fun x hx => (h3 x hx).trans (hf x hx)⟩
set_option maxRecDepth 100000 in
set_option maxHeartbeats 8000000 in
theorem orderrec_any (bs : List (List Int)) (hf : FitP bs) (hm : bs.length ≤ 200) : ∀ (k c : Nat), c < k → c < bs.length → ∀ (u : Value) (m : Nat) (w : World) (f : Int → Option Value), Rm w u bs → Kn Try.prog 3 w m bs f →
    Calls Try.prog 15 #[u, .int .i64 c, .map (some m)] w (RPost w m bs c f) := by
  intro k
  induction k with
  | zero => intro c h; omega
  | succ k ih =>
    intro c hck hcl u m w f h hK
    obtain ⟨i0, hi, hz0, hz1, hz2⟩ := info_parts infoInt
    obtain ⟨i1, hj, hy0, hy1, hy2⟩ := info_parts infoSl
    have HF := Lib.hid hf
    have HIH := Lib.hid ih
    have HR := Lib.hid h
    have HK := Lib.hid hK
    have hwf : wfI (c : Int) := wfI_of ⟨by omega, by omega⟩
    have hzs : ∀ wx, (zeroValue 24).run Try.prog wx = .ok (.slice none 0 0) wx := fun wx => by kernel_rfl
    have HGO := Lib.hid fun (b n : Nat) (f : Int → Option Value) (wx : World) (h : MapF Try.prog 3 wx b n f) (x : Int) (hx : wfI x) => MapF.getok (t := 38) Try.underlying3 Try.underlying38 h (hzs wx) hx
    have HG := Lib.hid fun (b n : Nat) (f : Int → Option Value) (wx : World) (h : MapF Try.prog 3 wx b n f) (x : Int) (hx : wfI x) => MapF.get (t := 38) Try.underlying3 Try.underlying38 h (hzs wx) hx
    have HU := Lib.hid fun (b n : Nat) (f : Int → Option Value) (wx : World) (h : MapF Try.prog 3 wx b n f) (hn : n < maxLen) (x : Int) (hx : wfI x) (v : Value) => MapF.put (t := 38) Try.underlying3 Try.underlying38 h hn hx v
    have hget := HGO.out _ _ _ _ hK.map c hwf
    clear ih hzs hf
    cases hfc : f (c : Int) with
    | some v =>
      obtain ⟨l, ho, _, hr⟩ := hK.ent _ _ hfc
      rw [hfc] at hget
      simp only [Option.getD_some, Option.isSome_some] at hget
      have HRL := Lib.hid hr
      have HO := Lib.hid ho
      clear hK hfc hr ho h
      go_enter Try.func15, Try.ntmps15
      go_wp2
      go_ret2
      exact RPost.ok ⟨Only.refl _ _, f, HK.out, fun _ _ => rfl⟩ HO.out HRL.out
    | none =>
      rw [hfc] at hget
      simp only [Option.getD_none, Option.isSome_none] at hget
      have HFC := Lib.hid hfc
      obtain ⟨p, cc, rfl, hc, _, hp⟩ := rm_form h
      obtain ⟨b, off, rfl, hcell⟩ := hp (by omega)
      obtain ⟨uc, hci, hru⟩ := hcell c hcl
      obtain ⟨bl, hbl⟩ : ∃ bl, bs.getD c [] = bl := ⟨_, rfl⟩
      rw [hbl] at hru
      have HBL := Lib.hid hbl
      have HRU := Lib.hid hru
      obtain ⟨p2, c2, rfl, hc2, hm2, hp2⟩ := ri_form hru
      have hclz : (c : Int) < (bs.length : Int) := by omega
      have HFA := Lib.hid (show FitAt c bl from by rw [← hbl]; exact HF.out.at c)
      have hbll : bl.length ≤ 200 := by rw [← hbl]; exact Nat.le_trans (fit_len HF.out c) (by omega)
      have HON := Lib.hid (show ord bs (c : Int) = nextO (ord bs) c bl from by rw [← hbl]; exact ord_next HF.out (by omega))
      clear hK hfc h hp hcell hbl hru hp2
      go_enter Try.func15, Try.ntmps15
      go_wp2
      go_loopw [10, 30] (fun lv s wx => ∃ (j : Nat) (ls : List (List Int)) (vs : List Value) (f' : Int → Option Value), s = .int .i64 j ∧ j ≤ bl.length ∧ LTab wx w.heap.size lv ls vs ∧ (bl.take j).map (ord bs) = ls.map some ∧ Kn Try.prog 3 wx m bs f' ∧ (∀ x, (c : Int) ≤ x → f' x = f x) ∧ Only m w wx) (fun _ s _ => bl.length - (intOf s).toNat)
      case atStart => exact ⟨0, [], [], f, rfl, Nat.zero_le _, LTab.nil _ _, rfl, HK.out, fun _ _ => rfl, Only.refl _ _⟩
      case round =>
        obtain ⟨j, ls, vs, f', rfl, hjl, hT, hls, hK2, hff, hO⟩ := hrel
        have HT := Lib.hid hT
        have HLS := Lib.hid hls
        have HK2 := Lib.hid hK2
        have HFF := Lib.hid hff
        have HO := Lib.hid hO
        have HLL := Lib.hid (show ls.length = j from by have := congrArg List.length hls; simp at this; omega)
        have HR2 := Lib.hid (Rm.only hO HK.out.map.isMap HR.out)
        clear hT hls hK2 hff hget hO
        by_cases hjt : j < bl.length
        · have hjz : (j : Int) < (bl.length : Int) := by omega
          obtain ⟨p3, c3, he3, _, _, hcell3⟩ := ri_form (Ri.only HO.out HK.out.map.isMap HRU.out)
          obtain ⟨b3, o3, rfl, hcell4⟩ := hcell3 (by omega)
          simp only [Value.slice.injEq] at he3
          obtain ⟨rfl, _, rfl⟩ := he3
          have hcy := hcell4 j hjt
          have hbj := fitAt_at HFA.out hjt
          obtain ⟨q, hq⟩ := Int.eq_ofNat_of_zero_le hbj.1
          rw [hq] at hcy hbj
          have HQ := Lib.hid hq
          have HCALL := Lib.hid (HIH.out q (by omega) (by omega) _ m wr f' HR2.out HK2.out)
          have hqc : q < c := by omega
          clear hcell3 hcell4 hq hbj
          go_wp2_with fail
          refine HCALL.out.mono ?_
          rintro e w3 ⟨⟨hO3, f3, hK3, hf3⟩, hbad, hgood⟩
          have HO3 := Lib.hid hO3
          have HK3 := Lib.hid hK3
          have HF3 := Lib.hid hf3
          have HOX := Lib.hid (HO.out.trans hO3)
          clear hO3 hK3 hf3
          cases ho : ord bs (q : Int) with
          | none =>
            obtain rfl := hbad ho
            have HNO := Lib.hid (show ord bs (c : Int) = none from by
              rw [HON.out]
              refine nextO_none (b := (q : Int)) ?_ ho
              rw [← HQ.out, List.getD_eq_getElem?_getD, List.getElem?_eq_getElem hjt]
              exact List.getElem_mem hjt)
            clear hbad hgood ho
            go_wp2
            go_ret2
            exact RPost.bad ⟨HOX.out, f3, HK3.out, fun x hx => (HF3.out x (by omega)).trans (HFF.out x (by omega))⟩ HNO.out
          | some l =>
            obtain ⟨u3, rfl, hr3⟩ := hgood l ho
            have HR3 := Lib.hid hr3
            have HT3 := Lib.hid (HT.out.only HO3.out HK2.out.map.isMap)
            have HL3 := Lib.hid ho
            obtain ⟨p5, c5, rfl, _, _, _⟩ := ri_form hr3.1
            clear hbad hgood ho hr3
            go_wp2_with (at_builtin; refine wpList_append_own_at _ rfl _ _ 22 rfl w.heap.size 24 i1 (.slice none 0 0) 1 24 Try.underlying22 hj hy0 hy1 hy2 rfl (by decide) _ _ _ rfl (World.ownsRow.alloc HT3.out.own _) ⟨w3.heap.size, 0, none⟩ 1 1 [.slice p5 l.length c5] rfl rfl (one_newV _ _ _) (by simp [Value.oneCell']) (by have := HLL.out; unfold maxLen; omega) (by have := HLL.out; omega) (by have := HOX.out.size; simp; omega) ?_; intro v' w9 hown' hgrow' _ hat'; have HW9 := Lib.hid hown'; have HG9 := Lib.hid hgrow'; have HA9 := Lib.hid hat'; clear hown' hgrow' hat')
            have HB9 := Lib.hid (show Below w.heap.size w3 w9 from own_low HT3.out.own HG9.out (Nat.le_refl _) HOX.out.size)
            go_roundw
            case rel => exact ⟨j + 1, ls ++ [l], vs ++ [.slice p5 l.length c5], f3, by go_num, by omega, HT3.out.snoc HW9.out ((Below.refl _ _).alloc (Nat.le_refl _) _) HG9.out HA9.out (HR3.out.1.keep ((Below.refl _ _).alloc (Nat.le_refl _) _)) (HT3.out.away HR3.out), by rw [take_snocI hjt, HQ.out, List.map_append, HLS.out]; simp [HL3.out], HK3.out.lrow HT3.out (grown_old HG9.out), fun x hx => (HF3.out x (by omega)).trans (HFF.out x hx), HOX.out.low HB9.out⟩
            case measure => simp [intOf]; omega
        · have hjz : ¬ (j : Int) < (bl.length : Int) := by omega
          have hjl2 : j = bl.length := by omega
          have HLB := Lib.hid (show bl.map (ord bs) = ls.map some from by have := HLS.out; rwa [List.take_of_length_le (by omega)] at this)
          have HLN := Lib.hid (show ls.length = bl.length from HLL.out.trans hjl2)
          have hciw := cell_only HO.out HK.out.map.isMap hci
          have HRB := Lib.hid (Ri.only HO.out HK.out.map.isMap HRU.out)
          clear hjl2 hjl
          go_wp2_with (at_builtin; refine wpList_append_own_at _ rfl _ _ 22 rfl w.heap.size 24 i1 (.slice none 0 0) 1 24 Try.underlying22 hj hy0 hy1 hy2 rfl (by decide) _ _ _ rfl (World.ownsRow.alloc HT.out.own _) ⟨wr.heap.size, 0, none⟩ 1 1 [.slice p2 bl.length c2] rfl rfl (one_newV _ _ _) (by simp [Value.oneCell']) (by have := HLN.out; unfold maxLen; omega) (by have := HLN.out; omega) (by have := HO.out.size; simp; omega) ?_; intro v' w9 hown' hgrow' _ hat'; have HW9 := Lib.hid hown'; have HG9 := Lib.hid hgrow'; have HA9 := Lib.hid hat'; clear hown' hgrow' hat')
          have HT9 := Lib.hid (show LTab w9 w.heap.size v' (ls ++ [bl]) (vs ++ [.slice p2 bl.length c2]) from HT.out.snoc HW9.out ((Below.refl _ _).alloc (Nat.le_refl _) _) HG9.out HA9.out (HRB.out.keep ((Below.refl _ _).alloc (Nat.le_refl _) _)) (fun hne b off s n c e => by
            have h1 := ri_blk_lt HRU.out hne e
            rcases HT.out.own.2 with ⟨hov, _⟩ | ⟨g, cap, cur2, hov, hgB, _⟩
            · rw [hov]; simp [Value.ownBlock]
            · rw [hov]
              intro e2
              have e3 : some b = some g := e2
              simp only [Option.some.injEq] at e3
              omega))
          have HB9 := Lib.hid (show Below w.heap.size wr w9 from own_low HT.out.own HG9.out (Nat.le_refl _) HO.out.size)
          have HK9 := Lib.hid (HK2.out.lrow HT.out (grown_old HG9.out))
          have HO9 := Lib.hid (HO.out.low HB9.out)
          have HONE := Lib.hid (show ord bs (c : Int) = if allNil (mergeL (ls ++ [bl])).2 then some ((c : Int) :: (mergeL (ls ++ [bl])).1) else none from by rw [HON.out]; exact nextO_eq HLB.out)
          have hmem : ∀ x ∈ ls, ∃ q : Nat, q < c ∧ ord bs (q : Int) = some x := fun x hx => by
            have h1 : some x ∈ bl.map (ord bs) := by rw [HLB.out]; exact List.mem_map_of_mem hx
            obtain ⟨y, hy, he⟩ := List.mem_map.1 h1
            have hb := HFA.out.1 y hy
            obtain ⟨q, rfl⟩ := Int.eq_ofNat_of_zero_le hb.1
            exact ⟨q, by omega, he⟩
          have htot : total (ls ++ [bl]) ≤ 40401 := by
            have := total_bound (ls := ls ++ [bl]) (k := 201) (fun x hx => by
              rcases List.mem_append.1 hx with hx | hx
              · obtain ⟨q, hqc, ho⟩ := hmem x hx
                have := ord_len HF.out (by omega) ho
                omega
              · simp at hx; subst hx; omega)
            have h2 : (ls ++ [bl]).length ≤ 201 := by have := HLN.out; simp; omega
            have h3 := Nat.mul_le_mul_right 201 h2
            omega
          have hfine : Fine (ls ++ [bl]) := fun x hx y hy => by
            rcases List.mem_append.1 hx with hx | hx
            · obtain ⟨q, hqc, ho⟩ := hmem x hx
              have hok := (ord_ok HF.out _ _ _ (by omega) rfl ho).lo y hy
              exact wfI_of ⟨by omega, by omega⟩
            · simp at hx; subst hx
              have := HFA.out.1 y hy
              exact wfI_of ⟨by omega, by omega⟩
          have HMG := Lib.hid (merge_any v' (ls ++ [bl]) w9 (HT9.out.rm (by have := HLN.out; simp; omega)) (by have := HLN.out; simp; omega) (by omega) hfine)
          have HNL := Lib.hid (show (mergeL (ls ++ [bl])).1.length ≤ 50000 from by
            have h1 := mergeL_len _ (ls ++ [bl]) rfl
            omega)
          clear hmem htot hfine HT9 HG9 HW9 HA9 HRB hciw
          generalize (ls ++ [bl]) = ml at HMG HONE HNL
          refine HMG.out.mono ?_
          rintro e w4 ⟨uo, rfl, hm1, hm2⟩
          have HM1 := Lib.hid hm1
          have HK4 := Lib.hid (HK9.out.below hm2)
          have HO4 := Lib.hid (HO9.out.trans (Only.of hm2))
          clear hm1 hm2
          cases hok : allNil (mergeL ml).2 with
          | false =>
            have HNO := Lib.hid (show ord bs (c : Int) = none from by rw [HONE.out, hok]; rfl)
            clear hok
            go_wp2
            go_ret2
            exact RPost.bad ⟨HO4.out, f', HK4.out, fun x hx => HFF.out x (by omega)⟩ HNO.out
          | true =>
            have HYES := Lib.hid (show ord bs (c : Int) = some ((c : Int) :: (mergeL ml).1) from by rw [HONE.out, hok]; rfl)
            have hOM := HM1.out.mine
            clear hok
            have hnl := HNL.out
            clear HNL HONE HM1 HMG
            generalize (mergeL ml).1 = mo at HYES hOM hnl
            rcases hOM with ⟨rfl, rfl⟩ | ⟨g5, c5, cur5, rfl, m1, m2, m3, m4, m5⟩
            · go_wp2_with (at_builtin; refine wpList_append_own_none rfl (.tmp 64) (.tmp 65) 24 rfl w4.heap.size 3 i0 1 Try.underlying24 hi _ _ _ rfl (own_oneI w4 (c : Int)) rfl ?_; generalize hw5 : World.alloc w4 _ = w5; have hb5 : Below w4.heap.size w4 w5 := (by rw [← hw5]; exact (Below.refl _ _).alloc (Nat.le_refl _) _); have HE5 := Lib.hid (show Mine .i64 3 w5 w4.heap.size (.slice (some ⟨w4.heap.size, 0, none⟩) 1 1) [(c : Int)] from by rw [← hw5]; exact LR.mine (k := .i64) (ws := [(c : Int)]) (heap_alloc_new w4 _) (Nat.le_refl _)); have HK5 := Lib.hid (HK4.out.below hb5); have HO5 := Lib.hid (HO4.out.trans (Only.of hb5)); clear hw5 hb5; have HRT := Lib.hid (Mine.rt HE5.out (by simp)); obtain ⟨w6, hput, hM6, hT6⟩ := HU.out _ _ _ _ HK5.out.map (by have := cntK_le bs.length f'; unfold maxLen; omega) c hwf (.slice (some ⟨w4.heap.size, 0, none⟩) 1 1); have hget6 := HG.out _ _ _ _ hM6 c hwf; rw [if_pos rfl] at hget6; simp only [Option.getD_some] at hget6; have HK6 := Lib.hid (HK5.out.put (by rw [HFF.out c (by omega)]; exact HFC.out) hcl HYES.out HRT.out hM6 hT6); have HT6 := Lib.hid hT6; have HR6 := Lib.hid (HRT.out.only (Only.ofTurn hT6) HK5.out.map.isMap); clear hM6 hT6)
              go_ret2
              exact RPost.ok ⟨HO5.out.turn HT6.out, _, HK6.out, fun x hx => by rw [if_neg (by omega)]; exact HFF.out x (by omega)⟩ HYES.out HR6.out
            · have hgl5 : g5 < w4.heap.size := (Array.getElem?_eq_some_iff.1 m4).1
              have HN5 := Lib.hid (show ∀ j u, (mo.map (Value.int .i64))[j]? = some u → (w4.alloc (.cells #[.int .i64 (c : Int)] 3)).cell? ((⟨g5, 0, none⟩ : Addr).add j) = some u from by
                intro j u hj
                rw [List.getElem?_map] at hj
                cases hr : mo[j]? with
                | none => rw [hr] at hj; cases hj
                | some y =>
                  rw [hr] at hj
                  have hjl : j < mo.length := (List.getElem?_eq_some_iff.1 hr).1
                  have h5 := m5 j hjl
                  rw [List.getD_eq_getElem?_getD, hr] at h5
                  simp only [Option.map_some, Option.some.injEq] at hj
                  refine alloc_cell ?_ _
                  rw [← hj, addZ]
                  simpa [World.cell?, m4] using h5)
              clear m4 m5
              go_wp2_with (at_builtin; refine wpList_append_own _ rfl (.tmp 64) (.tmp 65) 24 rfl w4.heap.size 3 i0 (.int .i64 0) 1 8 Try.underlying24 hi hz0 hz1 hz2 rfl (by decide) _ _ _ rfl (own_oneI w4 (c : Int)) ⟨g5, 0, none⟩ mo.length c5 (mo.map (Value.int .i64)) rfl (by simp) HN5.out (by simp [Value.oneCell']) (by unfold maxLen; omega) (by omega) (by simp) ?_; intro v5 w5 hown5 hgrow5 _; have hb5 : Below w4.heap.size w4 w5 := own_grown hgrow5; obtain ⟨g6, c6, hg6, rfl, HE5⟩ := ownI_mine hown5; have HK5 := Lib.hid (HK4.out.below hb5); have HO5 := Lib.hid (HO4.out.trans (Only.of hb5)); clear hb5 hown5 hgrow5; have HRT := Lib.hid (Mine.rt HE5.out (by simp; omega)); obtain ⟨w6, hput, hM6, hT6⟩ := HU.out _ _ _ _ HK5.out.map (by have := cntK_le bs.length f'; unfold maxLen; omega) c hwf (.slice (some ⟨g6, 0, none⟩) (1 + mo.length) c6); have hget6 := HG.out _ _ _ _ hM6 c hwf; rw [if_pos rfl] at hget6; simp only [Option.getD_some] at hget6; have HK6 := Lib.hid (HK5.out.put (by rw [HFF.out c (by omega)]; exact HFC.out) hcl HYES.out HRT.out hM6 hT6); have HT6 := Lib.hid hT6; have HR6 := Lib.hid (HRT.out.only (Only.ofTurn hT6) HK5.out.map.isMap); clear hM6 hT6)
              go_ret2
              exact RPost.ok ⟨HO5.out.turn HT6.out, _, HK6.out, fun x hx => by rw [if_neg (by omega)]; exact HFF.out x (by omega)⟩ HYES.out HR6.out
end Go.Proofs.Ytfddcmapjnkhhaa
