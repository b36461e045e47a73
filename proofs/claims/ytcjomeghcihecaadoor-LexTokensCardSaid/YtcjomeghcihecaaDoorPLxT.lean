/- Layer 4: a string is taken. -/
import Derived.Test.YtcjomeghcihecaaDoorPLxS
import Derived.Test.YtcjomeghcihecaaDoorPLxQ
import Derived.Laws.BytesArg
namespace Go.Proofs.YtcjomeghcihecaaDoor
open Go Go.ChangeShapes Go.WideShapes Go.ChangeAt Go.RowKit Go.PlainAid Go.Maps
set_option linter.unusedVariables false
set_option linter.unusedSimpArgs false
theorem infoU8L : (Tryd.prog.info? 5).map (fun i => (i.zero, i.size, i.bytes)) = some (some (.int .u8 0), 1, 1) := by kernel_rfl
def ints8 (l : Bs) : List Int := l.map fun c => (c.toNat : Int)
theorem strOf8 (l : Bs) : strOfNums (ints8 l) = bsOf l := by
  unfold strOfNums ints8 bsOf
  rw [List.map_map]
  congr 1
  congr 1
  have : ((fun n : Int => UInt8.ofNat n.toNat) ∘ fun c : UInt8 => (c.toNat : Int)) = id := by funext c; simp
  rw [this, List.map_id]
theorem conv8 {w : World} {B : Nat} {v : Value} {l : Bs} (h : OW .u8 5 w B v (ints8 l)) : (convert 22 9 v).run Tryd.prog w = .ok (.string (bsOf l)) w := by
  rcases h.mine with ⟨rfl, e⟩ | ⟨g, c, cur, rfl, h1, h2, h3, h4, h5⟩
  · have hl : l = [] := by cases l with | nil => rfl | cons x y => simp [ints8] at e
    subst hl
    exact run_convert_bytes_nil w 22 5 Tryd.underlying22 Tryd.underlying5 0 0 _ Tryd.underlying9
  · rw [← strOf8]
    exact run_convert_bytes_arg w 22 5 Tryd.underlying22 Tryd.underlying5 g 0 _ c (ints8 l) rfl (fun i hi => by rw [Nat.zero_add]; simp [World.cell?, h4, h5 i hi]) _ Tryd.underlying9
set_option maxRecDepth 100000 in
set_option maxHeartbeats 4000000 in
theorem takeString_any {D : DataW Unit} {w : World} {B x mb kb : Nat} {σ : LxD} (h : LX D w B x mb kb σ) (hs : σ.s.size ≤ 20000) (ha : σ.a < σ.s.size) (hol : σ.out.length ≤ 1000000) (q : UInt8) (hq : 32 ≤ q.toNat) (hqb : bt σ.s σ.a = q.toNat) :
    Calls Tryd.prog 41 #[.pointer (some ⟨x, 0, none⟩), .int .u8 (bt σ.s σ.a)] w (TokP D w B x mb kb σ (strD (Rs σ.s σ.a))) := by
  obtain ⟨s, a, ln, d, op, out⟩ := σ
  simp only at h hs ha hol hqb ⊢
  have hstr : strD (Rs s a) = (strS q .plain (Rs s (a + 1))).map fun p => (7, p.1, p.2 + 1) := by
    obtain ⟨c, r1, r2⟩ := Rs_cons ha
    have hc : c = q := UInt8.toNat_inj.1 (by omega)
    rw [r1, hc]; rfl
  rw [hstr]
  obtain ⟨SR, hSR⟩ : ∃ r, strS q .plain (Rs s (a + 1)) = r := ⟨_, rfl⟩
  rw [hSR]
  obtain ⟨qi, hqi⟩ : ∃ i : Int, bt s a = i := ⟨_, rfl⟩
  rw [hqi] at hqb ⊢
  have H := Lib.hid h
  have HSR := Lib.hid hSR
  have HQB := Lib.hid hqb
  have c0 := h.choose_spec.choose_spec.c.c0
  have c1 := h.choose_spec.choose_spec.c.c1
  have hxl := h.choose_spec.choose_spec.c.lt
  have hbx := h.choose_spec.choose_spec.bx
  have hgs := get_bt s
  simp only at c0 c1
  have w0 : IntKind.i64.wrap ((a : Int) + 1) = (a : Int) + 1 := i64_in (by omega) (by omega)
  clear h hstr hSR hqb hqi
  go_enter Tryd.func41, Tryd.ntmps41
  go_wp2_with fail
  go_loopw [5, 6] (fun v5 i6 wr => ∃ (i : Nat) (acc : Bs), i6 = .int .i64 i ∧ a + 1 ≤ i ∧ i ≤ s.size ∧ acc.length ≤ i ∧ SR = (strS q .plain (Rs s i)).map (fun p => (acc ++ p.1, (i - (a + 1)) + p.2)) ∧ OW .u8 5 wr w.heap.size v5 (ints8 acc) ∧ Below w.heap.size w wr) (fun v5 i6 wr => s.size - (intOf i6).toNat)
  case atStart =>
    refine ⟨a + 1, [], by go_num, Nat.le_refl _, by omega, Nat.zero_le _, ?_, ?_, ?_⟩
    · rw [HSR.out]; cases SR <;> simp
    · exact World.ownsRow_made w #[] 0 (Nat.le_refl _) (Nat.zero_le _) rfl
    · exact (Below.refl _ _).alloc (Nat.le_refl _) _
  case round =>
    obtain ⟨i, acc, rfl, hi1, hi2, hal, hsr, hO, hB⟩ := hrel
    have y0 := below_cell hB c0
    have HS := Lib.hid hsr
    have HO := Lib.hid hO
    have HB := Lib.hid hB
    have hsz := hB.size
    obtain ⟨p5, k5, hv5⟩ := owns_form hO
    have hil : (ints8 acc).length = acc.length := by simp [ints8]
    rw [hil] at hv5
    subst hv5
    have HOO := Lib.hid (show wr.ownsRow w.heap.size 5 1 (.slice p5 acc.length k5) acc.length ((ints8 acc).map (Value.int .u8)) by have h1 := HO.out; unfold OW at h1; rw [hil] at h1; exact h1)
    have w1 : IntKind.i64.wrap ((i : Int) + 1) = (i : Int) + 1 := i64_in (by omega) (by omega)
    clear hsr hO hB hil c0 c1
    by_cases hlt : i < s.size
    · have hlz : (i : Int) < (s.size : Int) := by omega
      have hb0 := bt_nonneg s i
      have hb1 := bt_le s i
      by_cases h32 : bt s i < 32
      · have h32z : ¬ (bt s i ≥ 32) := by omega
        have hn : SR = none := by rw [HS.out, str_low q hq hlt h32]; rfl
        have HN := Lib.hid hn
        clear hn
        go_wp2_with fail
        refine bodyPost_ret (v := .int .i64 20) (by simp [results, Tryd.results41, go_sem]) rfl ?_
        rw [HN.out]
        exact ⟨rfl, _, H.out.keep HB.out, rfl, HB.out.mono (by omega)⟩
      · have h32z : bt s i ≥ 32 := by omega
        by_cases hq1 : bt s i = qi
        · have hqb1 : (bt s i == qi) = true := by simpa using hq1
          have hn : SR = some (acc, i - (a + 1) + 1) := by rw [HS.out, str_quote q hlt (by rw [hq1]; exact HQB.out)]; simp
          have HN := Lib.hid hn
          have hcv := conv8 HO.out
          have HQ1 := Lib.hid hq1
          clear hn hq1
          go_wp2_with fail
          refine (put_any (σ := ⟨s, a, ln, d, op, out⟩) (H.out.keep HB.out) hol 7 acc).mono ?_
          rintro e w6 ⟨rfl, hx6, hb6⟩
          have HX6 := Lib.hid hx6
          have HB6 := Lib.hid ((HB.out.mono (show B ≤ w.heap.size by omega)).trans hb6)
          have z1 := hx6.choose_spec.choose_spec.c.c1
          have g1 := hx6.choose_spec.choose_spec.c.f 1
          simp only at z1
          clear hx6 hb6
          go_wp2_with fail
          refine bodyPost_ret (v := .int .i64 0) (by simp [results, Tryd.results41, go_sem]) rfl ?_
          rw [HN.out]
          have hst := HX6.out.setAt (i + 1)
          have hca : ((i + 1 : Nat) : Int) = (i : Int) + 1 := by omega
          rw [hca] at hst
          refine ⟨rfl, ?_, HB6.out.trans hst.2⟩
          have hix : a + (i - (a + 1) + 1 + 1) = i + 1 := by omega
          simp only [hix]
          exact hst.1
        · have hqb1 : (bt s i == qi) = false := by simpa using hq1
          have HQ1 := Lib.hid (show bt s i ≠ q.toNat by rw [← HQB.out]; exact hq1)
          by_cases h92 : bt s i = 92
          · have h92b : (bt s i == 92) = true := by simpa using h92
            have H92 := Lib.hid h92
            have hesc := esc_step q s (i + 1)
            have hres : s.extract (i + 1) s.size = restB s (i + 1) := rfl
            have HES := Lib.hid (fun wx => escape_any (restB s (i + 1)) (by rw [restB_size]; omega) wx)
            obtain ⟨E, hE⟩ : ∃ E, restB s (i + 1) = E := ⟨_, rfl⟩
            rw [hE] at hesc hres HES
            obtain ⟨e1, he1⟩ : ∃ e, (escP E).1 = e := ⟨_, rfl⟩
            obtain ⟨e2, he2⟩ : ∃ e, (escP E).2 = e := ⟨_, rfl⟩
            rw [he1, he2] at hesc HES
            have hlz2 : ((i : Int) + 1) ≤ (s.size : Int) := by omega
            have htn : ((i : Int) + 1).toNat = i + 1 := by omega
            clear hE he1 he2 h92 hq1
            rcases hesc with ⟨h1, h2⟩ | ⟨n, h1, h2, h3, h4, h5, h6, h7⟩
            · subst h1
              have hn : SR = none := by rw [HS.out, str_esc q hlt HQ1.out H92.out, h2]; rfl
              have HN := Lib.hid hn
              clear hn h2
              go_wp2_with (first
                | (go_at_call 51; (with_reducible refine (HES.out _).mono ?_); rintro e wv ⟨rfl, n1, rfl⟩)
                | fail)
              refine bodyPost_ret (v := .int .i64 20) (by simp [results, Tryd.results41, go_sem]) rfl ?_
              rw [HN.out]
              exact ⟨rfl, _, (H.out.keep HB.out).drew _, rfl, (HB.out.mono (by omega)).trans (drew_below _ _ _)⟩
            · subst h1
              have hnb : ((n : Int) == 0) = false := by simpa using (show ¬ ((n : Int) = 0) by omega)
              have w2 : IntKind.i64.wrap ((i : Int) + (n : Int)) = (i : Int) + (n : Int) := i64_in (by omega) (by omega)
              have w3 : IntKind.i64.wrap ((i : Int) + (n : Int) + 1) = (i : Int) + (n : Int) + 1 := i64_in (by omega) (by omega)
              have H7 := Lib.hid h7
              clear h7
              go_wp2_with (first
                | (go_at_call 51; (with_reducible refine (HES.out _).mono ?_); rintro e wv ⟨rfl, n1, rfl⟩)
                | (at_builtin; refine wpList_app rfl (.tmp 71) (.tmp 73) rfl Tryd.underlying22 infoU8L rfl rfl (v := .slice p5 acc.length k5) (base := w.heap.size) (n := acc.length) (m := 1) (xs := (ints8 acc).map (Value.int .u8)) (news := [.int .u8 (e1)]) (owns_of HOO.out fun b hb => (Below.heap_alloc _ _ _ (by first | exact (owns_lt HOO.out hb).2 | simpa using (owns_lt HOO.out hb).2)).trans rfl) rfl (by exact src_oneL (by first | rfl | (simp; done))) (by simp [Value.oneCell']) (by unfold maxLen; omega) (by omega) (by simp; omega) ?_; intro v' w5 hap; obtain ⟨p7, k7, rfl⟩ := owns_form hap.own; have HAP := Lib.hid hap; clear hap)
                | fail)
              have hOW' := OW.snoc (k := .u8) (x := e1) (by have h1 := HAP.out.own; rw [show acc.length + 1 = (ints8 acc).length + 1 by simp [ints8]] at h1; exact h1)
              have hacc : ints8 acc ++ [e1] = ints8 (acc ++ [UInt8.ofNat (e1).toNat]) := by
                unfold ints8
                rw [List.map_append]
                congr 1
                simp only [List.map_cons, List.map_nil, List.cons.injEq, and_true]
                rw [UInt8.toNat_ofNat']
                omega
              rw [hacc] at hOW'
              have hB5 : Below w.heap.size w w5 := OW.grown (w := wr.drewN n1) (owns_of HO.out fun b hb => rfl) (HB.out.trans (drew_below _ _ _)) HAP.out.grown (Nat.le_refl _)
              have HOW5 := Lib.hid hOW'
              have HB5 := Lib.hid hB5
              clear hOW' hacc hB5
              go_wp2_with fail
              go_roundw
              case rel =>
                refine ⟨i + 1 + n, acc ++ [UInt8.ofNat (e1).toNat], by go_num, by omega, by omega, by rw [List.length_append]; simp only [List.length_singleton]; omega, ?_, ?_, HB5.out⟩
                · rw [HS.out, str_esc q hlt HQ1.out H92.out, H7.out, Option.map_map, Option.map_map]
                  cases strS q .plain (Rs s (i + 1 + n)) with
                  | none => rfl
                  | some p =>
                    simp only [Option.map_some, Function.comp, Option.some.injEq, Prod.mk.injEq, List.append_assoc, List.singleton_append, true_and]
                    omega
                · simpa [ints8] using HOW5.out
              case measure => simp [intOf]; omega
          · have h92b : (bt s i == 92) = false := by simpa using h92
            have H92 := Lib.hid h92
            clear h92 hq1
            go_wp2_with (first
              | (at_builtin; refine wpList_app rfl (.tmp 71) (.tmp 73) rfl Tryd.underlying22 infoU8L rfl rfl (v := .slice p5 acc.length k5) (base := w.heap.size) (n := acc.length) (m := 1) (xs := (ints8 acc).map (Value.int .u8)) (news := [.int .u8 (bt s i)]) (owns_of HOO.out fun b hb => (Below.heap_alloc _ _ _ (by first | exact (owns_lt HOO.out hb).2 | simpa using (owns_lt HOO.out hb).2)).trans rfl) rfl (by exact src_oneL (by first | rfl | (simp; done))) (by simp [Value.oneCell']) (by unfold maxLen; omega) (by omega) (by simp; omega) ?_; intro v' w5 hap; obtain ⟨p7, k7, rfl⟩ := owns_form hap.own; have HAP := Lib.hid hap; clear hap)
              | fail)
            have hOW' := OW.snoc (k := .u8) (x := bt s i) (by have h1 := HAP.out.own; rw [show acc.length + 1 = (ints8 acc).length + 1 by simp [ints8]] at h1; exact h1)
            have hacc : ints8 acc ++ [bt s i] = ints8 (acc ++ [UInt8.ofNat (bt s i).toNat]) := by
              unfold ints8
              rw [List.map_append]
              congr 1
              simp only [List.map_cons, List.map_nil, List.cons.injEq, and_true]
              rw [UInt8.toNat_ofNat']
              omega
            rw [hacc] at hOW'
            have hB5 : Below w.heap.size w w5 := OW.grown (w := wr) (owns_of HO.out fun b hb => rfl) (HB.out) HAP.out.grown (Nat.le_refl _)
            have HOW5 := Lib.hid hOW'
            have HB5 := Lib.hid hB5
            clear hOW' hacc hB5
            go_wp2_with fail
            go_roundw
            case rel =>
              refine ⟨i + 1, acc ++ [UInt8.ofNat (bt s i).toNat], by go_num, by omega, by omega, by rw [List.length_append]; simp only [List.length_singleton]; omega, ?_, ?_, HB5.out⟩
              · rw [HS.out, str_plain q hlt HQ1.out (by omega) H92.out, Option.map_map]
                cases strS q .plain (Rs s (i + 1)) with
                | none => rfl
                | some p =>
                  simp only [Option.map_some, Function.comp, Option.some.injEq, Prod.mk.injEq, List.append_assoc, List.singleton_append, true_and]
                  omega
              · simpa [ints8] using HOW5.out
            case measure => simp [intOf]; omega
    · have hlz : ¬ (i : Int) < (s.size : Int) := by omega
      have hn : SR = none := by rw [HS.out, str_end q (by omega)]; rfl
      have HN := Lib.hid hn
      clear hn
      go_wp2_with fail
      refine bodyPost_ret (v := .int .i64 20) (by simp [results, Tryd.results41, go_sem]) rfl ?_
      rw [HN.out]
      exact ⟨rfl, _, H.out.keep HB.out, rfl, HB.out.mono (by omega)⟩
end Go.Proofs.YtcjomeghcihecaaDoor
