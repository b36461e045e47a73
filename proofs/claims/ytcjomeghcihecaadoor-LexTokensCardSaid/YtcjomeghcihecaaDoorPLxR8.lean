/- Layer 4: the document's lines: a source cut into its rows. -/
import Derived.Test.YtcjomeghcihecaaDoorPGLxR7
namespace Go.Proofs.YtcjomeghcihecaaDoor
open Go Go.ChangeShapes Go.WideShapes Go.ChangeAt Go.RowKit Go.PlainAid Go.Maps
set_option linter.unusedVariables false
set_option linter.unusedSimpArgs false
theorem bt_mem2 {l : Bs} {k : Nat} (h : k < l.length) : ∃ c : UInt8, l[k]? = some c ∧ bt (bsOf l) k = (c.toNat : Int) := by
  have h' : k < (bsOf l).size := by rw [Lib.size_eq]; exact h
  obtain ⟨c, h1, h2⟩ := Rs_cons h'
  refine ⟨c, ?_, h2⟩
  have e : (Rs (bsOf l) k)[0]? = some c := by rw [h1]; rfl
  unfold Rs at e
  rw [List.getElem?_drop, Nat.add_zero] at e
  exact e
theorem infoStr : (Tryd.prog.info? 9).map (fun i => (i.zero, i.size, i.bytes)) = some (some (.string ⟨#[]⟩), 1, 16) := by kernel_rfl
/-- The cells of a row of strings. -/
def cS (L : List Bs) : List Value := L.map fun r => Value.string (bsOf r)
theorem cS_len (L : List Bs) : (cS L).length = L.length := by simp [cS]
theorem cS_one (L : List Bs) : ∀ u ∈ cS L, u.oneCell' = true := by
  intro u hu
  obtain ⟨x, _, rfl⟩ := List.mem_map.1 hu
  rfl
/-- A row of strings of one's own. -/
def OS (B : Nat) (w : World) (v : Value) (L : List Bs) : Prop := w.ownsRow B 9 1 v L.length (cS L)
theorem os_snoc {B : Nat} {w : World} {v : Value} {L : List Bs} (h : OS B w v L) (hB : B ≤ w.heap.size) (hl : L.length ≤ 100000) (r : Bs) (ty : TypeId) :
    ∃ v' w', (Builtin.append_ #[43, 43] ty #[v, .slice (some ⟨w.heap.size, 0, none⟩) 1 1]).run Tryd.prog (w.alloc (.cells #[.string (bsOf r)] 9)) = .ok v' w' ∧ OS B w' v' (L ++ [r]) ∧ Below B w w' := by
  have hB' : B ≤ (w.alloc (.cells #[.string (bsOf r)] 9)).heap.size := by simp; omega
  have hb1 : Below B w (w.alloc (.cells #[.string (bsOf r)] 9)) := (Below.refl _ _).alloc hB _
  have hal : (w.alloc (.cells #[.string (bsOf r)] 9)).ownsRow B 9 1 v L.length (cS L) := owns_of h fun g hg => Below.heap_alloc _ _ _ (owns_lt h hg).2
  obtain ⟨v', w', hrun, hap⟩ := run_app (P := Tryd.prog) (w := w.alloc (.cells #[.string (bsOf r)] 9)) (base := B) (ty := ty) (t := 43) (v := v) (x := .slice (some ⟨w.heap.size, 0, none⟩) 1 1) Tryd.underlying43 infoStr rfl hal (src_oneL rfl) (by simp [Value.oneCell']) (by unfold maxLen; omega) (by omega) hB'
  refine ⟨v', w', hrun, ?_, hb1.trans (hap.below hB' fun q hq => (owns_lt h hq).1)⟩
  have h1 := hap.own
  unfold OS
  have e : cS (L ++ [r]) = cS L ++ [.string (bsOf r)] := by simp [cS]
  rw [e, List.length_append]
  exact h1
/-- Rows cut off so far; f: where the next one begins. -/
def LnI (l : Bs) (L : List Bs) (f i : Nat) : Prop := (f ≤ i ∧ i ≤ l.length ∧ splitB l = L ++ splitB (l.drop f) ∧ NoNl ((l.drop f).take (i - f))) ∨ (i = l.length + 1 ∧ splitB l = L)
theorem take_snoc2 {l : Bs} {k : Nat} {c : UInt8} (h : l[k]? = some c) : l.take (k + 1) = l.take k ++ [c] := by
  have hi := (List.getElem?_eq_some_iff.1 h).1
  rw [List.take_succ_eq_append_getElem hi, (List.getElem?_eq_some_iff.1 h).2]
theorem LnI.start (l : Bs) : LnI l [] 0 0 := .inl ⟨Nat.le_refl _, Nat.zero_le _, rfl, by unfold NoNl; simp⟩
theorem drop_split (l : Bs) {f i : Nat} (h : f ≤ i) : l.drop f = (l.drop f).take (i - f) ++ l.drop i := by
  have e : l.drop i = (l.drop f).drop (i - f) := by rw [List.drop_drop]; congr 1; omega
  rw [e, List.take_append_drop]
theorem LnI.last {l : Bs} {L : List Bs} {f : Nat} (h : LnI l L f l.length) : splitB l = L ++ [(l.drop f).take (l.length - f)] ∧ f ≤ l.length := by
  rcases h with ⟨h1, _, h2, h3⟩ | ⟨h1, _⟩
  · refine ⟨?_, h1⟩
    have e := drop_split l h1
    rw [List.drop_length, List.append_nil] at e
    rw [e, splitB_row h3, ← e] at h2
    rw [h2, ← e]
  · omega
theorem LnI.cut {l : Bs} {L : List Bs} {f i : Nat} (h : LnI l L f i) (hi : i < l.length) (h10 : l[i]? = some 10) : LnI l (L ++ [(l.drop f).take (i - f)]) (i + 1) (i + 1) ∧ f ≤ i := by
  rcases h with ⟨h1, _, h2, h3⟩ | ⟨h1, _⟩
  · refine ⟨.inl ⟨Nat.le_refl _, hi, ?_, by rw [Nat.sub_self]; unfold NoNl; simp⟩, h1⟩
    have e := drop_split l h1
    have e2 : l.drop i = 10 :: l.drop (i + 1) := by
      rw [List.drop_eq_getElem_cons hi]
      congr 1
      rw [List.getElem?_eq_getElem hi] at h10
      injection h10
    rw [e2] at e
    rw [h2, e, splitB_app, splitB_row h3, List.append_assoc]
    congr 2
    rw [← e]
  · omega
theorem LnI.step {l : Bs} {L : List Bs} {f i : Nat} (h : LnI l L f i) (hi : i < l.length) {c : UInt8} (hc : l[i]? = some c) (h10 : c ≠ 10) : LnI l L f (i + 1) := by
  rcases h with ⟨h1, _, h2, h3⟩ | ⟨h1, _⟩
  · refine .inl ⟨by omega, hi, h2, ?_⟩
    have e : (l.drop f)[i - f]? = some c := by rw [List.getElem?_drop, show f + (i - f) = i by omega]; exact hc
    rw [show i + 1 - f = (i - f) + 1 by omega, take_snoc2 e]
    unfold NoNl at h3 ⊢
    rw [List.mem_append]
    rintro (h | h)
    · exact h3 h
    · simp at h; exact h10 h.symm
  · omega
set_option maxRecDepth 100000 in
set_option maxHeartbeats 2000000 in
theorem lines_r (l : Bs) (w : World) (hs : l.length ≤ 20000) :
    Calls Tryd.prog 23 #[.string (bsOf l)] w fun e w' => ∃ v, e = .returned v ∧ OS w.heap.size w' v (splitB l) ∧ Below w.heap.size w w' := by
  have hsz : (bsOf l).size = l.length := by rw [Lib.size_eq]; rfl
  have hex := fun (a n : Nat) => ext_bs (bsOf l) a n
  have hRs : ∀ k, Rs (bsOf l) k = l.drop k := fun k => rfl
  simp only [hRs] at hex
  have HEX := Lib.hid hex
  have HBT := Lib.hid (fun (k : Nat) (hk : k < l.length) => bt_mem2 (l := l) hk)
  obtain ⟨s, hse⟩ : ∃ s, bsOf l = s := ⟨_, rfl⟩
  rw [hse] at hsz HEX HBT ⊢
  have hb := get_bt s
  have hs2 : s.size ≤ 20000 := by omega
  have HSZ := Lib.hid hsz
  obtain ⟨B, hB⟩ : ∃ b, w.heap.size = b := ⟨_, rfl⟩
  rw [hB]
  have hBs : B ≤ w.heap.size := by omega
  clear hex hRs hse hsz hB
  go_enter Tryd.func23, Tryd.ntmps23
  go_wp2_with fail
  go_loopw [3, 4, 5] (fun s3 s4 s5 wr => ∃ (i f : Nat) (L : List Bs), s4 = .int .i64 f ∧ s5 = .int .i64 i ∧ i ≤ s.size + 1 ∧ f ≤ i ∧ LnI l L f i ∧ L.length ≤ i ∧ OS B wr s3 L ∧ Below B w wr) (fun s3 s4 s5 wr => s.size + 1 - (intOf s5).toNat)
  case atStart => exact ⟨0, 0, [], by go_num, by go_num, by omega, by omega, LnI.start l, by simp, World.ownsRow_nil w B 9 1, Below.refl _ _⟩
  case round =>
    obtain ⟨i, f, L, rfl, rfl, hi, hf, hln, hLl, ho, hbr⟩ := hrel
    have HLN := Lib.hid hln
    have HO := Lib.hid ho
    have HBR := Lib.hid hbr
    have hrs : B ≤ wr.heap.size := by have := hbr.size; omega
    obtain ⟨p3, k3, rfl⟩ := owns_form ho
    have w1x : IntKind.i64.wrap ((i : Int) + 1) = (i : Int) + 1 := i64_in (by omega) (by omega)
    clear hln ho hbr
    have hLz : (L.length : Int) ≤ 20001 := by omega
    by_cases hle : i ≤ s.size
    · have hz1 : (i : Int) ≤ (s.size : Int) := by omega
      have hz2 : (f : Int) ≤ (i : Int) := by omega
      have hfe : s.extract f i = bsOf ((l.drop f).take (i - f)) := by
        have h := HEX.out f (i - f)
        rw [show f + (i - f) = i by omega] at h
        exact h
      obtain ⟨T, hT⟩ : ∃ x, s.extract f i = x := ⟨_, rfl⟩
      have HAP := Lib.hid (os_snoc HO.out hrs (by omega) ((l.drop f).take (i - f)))
      rw [← hfe, hT] at HAP
      clear hfe
      by_cases heq : i = s.size
      · have hz3 : ((i : Int) == (s.size : Int)) = true := by simp [heq]
        have hlast : LnI l (L ++ [(l.drop f).take (i - f)]) (i + 1) (i + 1) := by
          have hl : i = l.length := by rw [heq, HSZ.out]
          subst hl
          exact .inr ⟨rfl, HLN.out.last.1⟩
        have HL := Lib.hid hlast
        clear hlast heq
        go_wp2_with (first
          | (at_builtin; refine wpList_appR rfl (.tmp 22) (.tmp 27) rfl rfl rfl (by exact HAP.out _) ?_; rintro v8 w8 ⟨ho8, hb8⟩; have HO8 := Lib.hid ho8; have HB8 := Lib.hid (HBR.out.trans hb8); clear ho8 hb8 HAP)
          | fail)
        go_roundw
        case rel => exact ⟨i + 1, i + 1, _, by go_num, by go_num, by omega, by omega, HL.out, by rw [List.length_append, List.length_singleton]; omega, HO8.out, HB8.out⟩
        case measure => simp [intOf]; omega
      · have hz3 : ((i : Int) == (s.size : Int)) = false := by simp; omega
        have hlt : i < s.size := by omega
        have hz4 : (i : Int) < (s.size : Int) := by omega
        obtain ⟨c, hc1, hc2⟩ := HBT.out i (by rw [← HSZ.out]; exact hlt)
        by_cases h10 : c = 10
        · have hb10 : (bt s i == 10) = true := by rw [hc2, h10]; rfl
          have hcut := (HLN.out.cut (by rw [← HSZ.out]; exact hlt) (by rw [hc1, h10])).1
          have HL := Lib.hid hcut
          clear hcut hc1 hc2 h10
          go_wp2_with (first
            | (at_builtin; refine wpList_appR rfl (.tmp 22) (.tmp 27) rfl rfl rfl (by exact HAP.out _) ?_; rintro v8 w8 ⟨ho8, hb8⟩; have HO8 := Lib.hid ho8; have HB8 := Lib.hid (HBR.out.trans hb8); clear ho8 hb8 HAP)
            | fail)
          go_roundw
          case rel => exact ⟨i + 1, i + 1, _, by go_num, by go_num, by omega, by omega, HL.out, by rw [List.length_append, List.length_singleton]; omega, HO8.out, HB8.out⟩
          case measure => simp [intOf]; omega
        · have hb10 : (bt s i == 10) = false := by
            rw [hc2]
            have : c.toNat ≠ 10 := fun e => h10 (UInt8.toNat_inj.1 e)
            simp; omega
          have hst := HLN.out.step (by rw [← HSZ.out]; exact hlt) hc1 h10
          have HL := Lib.hid hst
          clear hst hc1 hc2 h10 HAP hT
          go_wp2_with fail
          go_roundw
          case rel => exact ⟨i + 1, f, L, by go_num, by go_num, by omega, by omega, HL.out, by omega, HO.out, HBR.out⟩
          case measure => simp [intOf]; omega
    · have hz1 : ¬ (i : Int) ≤ (s.size : Int) := by omega
      have hend : splitB l = L := by
        rcases HLN.out with ⟨_, h, _⟩ | ⟨_, h⟩
        · have := HSZ.out; omega
        · exact h
      have HEND := Lib.hid hend
      clear hend
      go_wp2_with fail
      refine bodyPost_ret (v := .slice p3 L.length k3) (by simp [results, Tryd.results23, go_sem]) rfl ⟨_, rfl, ?_, HBR.out⟩
      rw [HEND.out]; exact HO.out
end Go.Proofs.YtcjomeghcihecaaDoor
