/- strconv's text of 1.0, run: rows of bytes of one's own; the text from the digit. strconv's text of 1.0, run: ftoa64, FormatFloat. strconv's text of 1.0, run: FormatFloat, Cut, Atoi. -/
import Derived.Test.YtbhommcpgejbfaaGreatDoorPGRlD
import Derived.Test.YtbhommcpgejbfaaGreatDoorPGWg
import Derived.Test.YtbhommcpgejbfaaGreatDoorPOwn
import Derived.RegionTactic
import Derived.ChangeAlike
import Derived.Deep.RegionHeld3
import Derived.Lib.ConvBytes
namespace Go.Proofs.YtbhommcpgejbfaaGreatDoor
section
open Go Go.ChangeShapes Go.WideShapes Go.RowKit
set_option linter.unusedVariables false
set_option linter.unusedSimpArgs false
theorem infoU8R : (Tryz.prog.info? 5).map (fun i => (i.zero, i.size, i.bytes)) = some (some (.int .u8 0), 1, 1) := by kernel_rfl
/-- A row of bytes of one's own. -/
def RB8 (B : Nat) (w : World) (v : Value) (l : List Int) : Prop := w.ownsRow B 5 1 v l.length (l.map (Value.int .u8))
theorem RB8.below {B : Nat} {w w' : World} {v : Value} {l : List Int} (h : RB8 B w v l) (hb : Below w.heap.size w w') : RB8 B w' v l := OW.keep (k := .u8) h hb
theorem rb8_app {B : Nat} {w : World} {v : Value} {l : List Int} (h : RB8 B w v l) (hB : B ≤ w.heap.size) (cs : List Int) (hl : l.length + cs.length ≤ 1000) (ty : TypeId) :
    ∃ v' w', (Builtin.append_ #[48, 48] ty #[v, .slice (some ⟨w.heap.size, 0, none⟩) cs.length cs.length]).run Tryz.prog (w.alloc (.cells (cs.map (Value.int .u8)).toArray 5)) = .ok v' w' ∧ RB8 B w' v' (l ++ cs) ∧ Below B w w' := by
  have hB' : B ≤ (w.alloc (.cells (cs.map (Value.int .u8)).toArray 5)).heap.size := by simp; omega
  have hb1 : Below B w (w.alloc (.cells (cs.map (Value.int .u8)).toArray 5)) := (Below.refl _ _).alloc hB _
  have hsrc : Src (w.alloc (.cells (cs.map (Value.int .u8)).toArray 5)) (.slice (some ⟨w.heap.size, 0, none⟩) cs.length cs.length) cs.length (cs.map (Value.int .u8)) := by
    have h1 := src_top (w := w) (b := w.heap.size) (cs := (cs.map (Value.int .u8)).toArray) (T := 5) (c := cs.length) rfl
    simpa using h1
  obtain ⟨v', w', hrun, hap⟩ := run_app (P := Tryz.prog) (w := w.alloc (.cells (cs.map (Value.int .u8)).toArray 5)) (base := B) (ty := ty) (t := 48) (v := v) (x := .slice (some ⟨w.heap.size, 0, none⟩) cs.length cs.length) Tryz.underlying48 infoU8R rfl (h.below ((Below.refl _ _).alloc (Nat.le_refl _) _)) hsrc (by simp [Value.oneCell']) (by unfold maxLen; omega) (by omega) hB'
  refine ⟨v', w', hrun, ?_, hb1.trans (hap.below hB' fun q hq => (World.ownsRow.lt h q hq).1)⟩
  have h1 := hap.own
  unfold RB8
  rw [List.map_append, List.length_append]
  exact h1
theorem RB8.text {B : Nat} {w : World} {v : Value} {l : List Int} (h : RB8 B w v l) (hl : l.length ≤ 1000) (h0 : 0 < l.length) :
    (convert 48 9 v).run Tryz.prog w = .ok (.string (strOfNums l)) w := by
  rcases OW.rb (T := 5) h (by omega) with ⟨p, rfl, e⟩ | ⟨b, off, c, rfl, h1, h2, h3⟩
  · rw [e] at h0; simp at h0
  · exact run_convert_bytes_arg w 48 5 Tryz.underlying48 Tryz.underlying5 b off _ c l rfl h3 _ Tryz.underlying9
theorem RB8.form {B : Nat} {w : World} {v : Value} {l : List Int} (h : RB8 B w v l) : ∃ p c, v = .slice p l.length c := by
  rcases h.2 with ⟨h1, h2⟩ | ⟨g, cap, cur, h1, _⟩
  · exact ⟨_, _, by rw [h1, h2]⟩
  · exact ⟨_, _, h1⟩
theorem wpList_appR8 {P : Program} {ops : Array Oper} {rest : List Oper} {o : Oper} {a : Act} {w : World} {Q : Exit → Act → World → Prop} {t t2 : TypeId} {v x : Value} (hgd : o.guard = none) (s y : Operand) (ho : o.op = .call { callee := .builtin .append, args := #[s, y], argTypes := #[t, t2] })
    (hv : a.eval s = v) (hx : a.eval y = x) {R : Value → World → Prop} (hr : ∃ v' w', (Builtin.append_ #[t, t2] o.type #[v, x]).run P w = .ok v' w' ∧ R v' w')
    (h : ∀ v' w', R v' w' → wpList P ops Q rest (a.put o.dst v') w') : wpList P ops Q (o :: rest) a w := by
  obtain ⟨v', w', hrun, h2⟩ := hr
  refine wpList_plain hgd fun K hK => ?_
  unfold Oper.wp
  simp [execOp, ho, resolve, invoke, builtin, hv, hx, hrun, Result.andThen]
  exact hK _ _ (h v' w' h2)
set_option maxRecDepth 100000 in
theorem fmtE_one (B X : Nat) (v : Value) (w : World) (hv : RB8 B w v []) (hB : B ≤ w.heap.size) (hX : w.cell? ⟨X, 0, none⟩ = some (.int .u8 49)) :
    Calls Tryz.prog 132 #[v, .bool false, .slice (some ⟨X, 0, none⟩) 32 32, .int .i64 1, .int .i64 1, .int .i64 0, .int .u8 101, .bool true] w fun e w' => ∃ v', e = .returned v' ∧ RB8 B w' v' [49, 101, 43, 48, 48] ∧ Below B w w' := by
  obtain ⟨p0, k0, rfl⟩ := hv.form
  have HA1 := Lib.hid (rb8_app hv hB [49] (by simp))
  clear hv
  go_enter Tryz.func132, Tryz.ntmps132
  go_wp2_with (first
    | (at_builtin; refine wpList_appR8 rfl (.tmp 87) (.tmp 89) rfl rfl rfl (by exact HA1.out _) ?_; rintro v8 w1 ⟨ho, hb⟩; have HB1 := Lib.hid hb; have hw1 : B ≤ w1.heap.size := (by have h1 := HB1.out.size; omega); have HA2 := Lib.hid (rb8_app ho hw1 [101] (by simp)); obtain ⟨p1, k1, rfl⟩ := ho.form; clear ho hb HA1)
    | (at_builtin; refine wpList_appR8 rfl (.tmp 120) (.tmp 122) rfl rfl rfl (by exact HA2.out _) ?_; rintro v8 w2 ⟨ho, hb⟩; have HB2 := Lib.hid (HB1.out.trans hb); have hw2 : B ≤ w2.heap.size := (by have h1 := HB2.out.size; omega); have HA3 := Lib.hid (rb8_app ho hw2 [43] (by simp)); obtain ⟨p2, k2, rfl⟩ := ho.form; clear ho hb HA2)
    | (at_builtin; refine wpList_appR8 rfl (.tmp 132) (.tmp 134) rfl rfl rfl (by exact HA3.out _) ?_; rintro v8 w3 ⟨ho, hb⟩; have HB3 := Lib.hid (HB2.out.trans hb); have hw3 : B ≤ w3.heap.size := (by have h1 := HB3.out.size; omega); have HA4 := Lib.hid (rb8_app ho hw3 [48, 48] (by simp)); obtain ⟨p3, k3, rfl⟩ := ho.form; clear ho hb HA3)
    | (at_builtin; refine wpList_appR8 rfl (.tmp 155) (.tmp 159) rfl rfl rfl (by exact HA4.out _) ?_; rintro v8 w4 ⟨ho, hb⟩; have HB4 := Lib.hid (HB3.out.trans hb); have HO4 := Lib.hid ho; clear ho hb HA4)
    | fail)
  go_ret
  exact ⟨_, rfl, HO4.out, HB4.out⟩
set_option maxRecDepth 100000 in
theorem fmtF_one (B X : Nat) (v : Value) (w : World) (hv : RB8 B w v []) (hB : B ≤ w.heap.size) (hX : w.cell? ⟨X, 0, none⟩ = some (.int .u8 49)) :
    Calls Tryz.prog 132 #[v, .bool false, .slice (some ⟨X, 0, none⟩) 32 32, .int .i64 1, .int .i64 1, .int .i64 0, .int .u8 102, .bool true] w fun e w' => ∃ v', e = .returned v' ∧ RB8 B w' v' [49] ∧ Below B w w' := by
  obtain ⟨p0, k0, rfl⟩ := hv.form
  have HA1 := Lib.hid (rb8_app hv hB [49] (by simp))
  clear hv
  go_enter Tryz.func132, Tryz.ntmps132
  go_wp2_with fail
  go_loopw [0, 191] (fun s0 si wr => (si = .int .i64 0 ∧ s0 = .slice p0 0 k0 ∧ w = wr) ∨ (si = .int .i64 1 ∧ RB8 B wr s0 [49] ∧ Below B w wr)) (fun s0 si wr => (1 - RowKit.intOf si).toNat)
  case atStart => exact .inl ⟨rfl, rfl, rfl⟩
  case round =>
    rcases hrel with ⟨rfl, rfl, rfl⟩ | ⟨rfl, ho, hb⟩
    · go_wp2_with (first
        | (at_builtin; refine wpList_appR8 rfl (.tmp 195) (.tmp 197) rfl rfl rfl (by exact HA1.out _) ?_; rintro v8 w1 ⟨ho, hb⟩; have HB1 := Lib.hid hb; have HO1 := Lib.hid ho; clear ho hb HA1)
        | fail)
      exact ⟨.inr ⟨rfl, HO1.out, HB1.out⟩, by simp [RowKit.intOf]⟩
    · have HB1 := Lib.hid hb
      have HO1 := Lib.hid ho
      obtain ⟨p1, k1, rfl⟩ := ho.form
      clear ho hb
      go_wp2_with fail
      go_loopw [0, 203] (fun s0 si wx => s0 = .slice p1 1 k1 ∧ si = .int .i64 0 ∧ wr = wx) (fun s0 si wx => 0)
      case atStart => exact ⟨rfl, rfl, rfl⟩
      case round =>
        obtain ⟨rfl, rfl, rfl⟩ := hrel
        go_wp2_with fail
        go_ret
        exact ⟨_, rfl, HO1.out, HB1.out⟩
end
section
open Go Go.ChangeShapes Go.WideShapes Go.RowKit
theorem drew_mono {B : Nat} {w w' : World} (h : Below B w w') : Below B w w'.drew := ⟨h.os, h.tape, h.output, h.size, h.block⟩
set_option linter.unusedVariables false
set_option linter.unusedSimpArgs false
def P10R (w : World) : Prop := Lib.TabIs Tryz.prog w "internal/strconv.uint64pow10" .u64 Lib.pow10Tab
theorem len64_one (w : World) : Calls Tryz.prog 119 #[.int .u64 4503599627370496] w fun e w' => e = .returned (.int .i64 53) ∧ w = w' := by
  refine (Tryz.bits_Len64 4503599627370496 w (by omega) (by omega)).mono ?_
  rintro e w' ⟨rfl, rfl⟩
  exact ⟨by rw [show Lib.bitLen (Int.toNat 4503599627370496) = 53 by decide +kernel]; rfl, rfl⟩
theorem numDigits_one (w : World) (h : P10R w) : Calls Tryz.prog 88 #[.int .u64 1000000000000000] w fun e w' => e = .returned (.int .i64 16) ∧ w = w' := by
  refine (Tryz.internal_strconv_numDigits 1000000000000000 (by omega) (by omega) w h).mono ?_
  rintro e w' ⟨rfl, rfl⟩
  exact ⟨by rw [show Lib.nDigits 1000000000000000 = 16 by decide +kernel]; rfl, rfl⟩
@[go_sem] theorem run_sbits (b : Nat) (w : World) : (callFunc 129 #[.float .f64 b]).run Tryz.prog w = .ok (.value (.int .u64 (b : Int))) w := by
  rw [run_callFunc_extern Tryz.func129 (by kernel_rfl) (by kernel_rfl) (by kernel_rfl) (e := Extern.MathFloatBits.float64bits) (by kernel_rfl)]
  rfl
theorem no_new (w : World) (T : TypeId) : No (w.alloc (.cells #[.int .u8 0, .int .u8 0, .int .u8 0, .int .u8 0, .int .u8 0, .int .u8 0, .int .u8 0, .int .u8 0, .int .u8 0, .int .u8 0, .int .u8 0, .int .u8 0, .int .u8 0, .int .u8 0, .int .u8 0, .int .u8 0, .int .u8 0, .int .u8 0, .int .u8 0, .int .u8 0, .int .u8 0, .int .u8 0, .int .u8 0, .int .u8 0, .int .u8 0, .int .u8 0, .int .u8 0, .int .u8 0, .int .u8 0, .int .u8 0, .int .u8 0, .int .u8 0] T)) w.heap.size := fun j hj => by
  refine ⟨?_, World.frozen?_alloc_new _ _ _ _⟩
  rw [World.cell?_alloc_new]
  have : ∀ j : Fin 16,  (#[.int .u8 0, .int .u8 0, .int .u8 0, .int .u8 0, .int .u8 0, .int .u8 0, .int .u8 0, .int .u8 0, .int .u8 0, .int .u8 0, .int .u8 0, .int .u8 0, .int .u8 0, .int .u8 0, .int .u8 0, .int .u8 0, .int .u8 0, .int .u8 0, .int .u8 0, .int .u8 0, .int .u8 0, .int .u8 0, .int .u8 0, .int .u8 0, .int .u8 0, .int .u8 0, .int .u8 0, .int .u8 0, .int .u8 0, .int .u8 0, .int .u8 0, .int .u8 0] : Array Value)[j.val]? = some (.int .u8 0) := by
    intro j
    obtain ⟨j, hj⟩ := j
    match j, hj with
    | 0, _ | 1, _ | 2, _ | 3, _ | 4, _ | 5, _ | 6, _ | 7, _ | 8, _ | 9, _ | 10, _ | 11, _ | 12, _ | 13, _ | 14, _ | 15, _ => rfl
    | k + 16, h => omega
  exact this ⟨j, hj⟩
theorem No.keep {w w' : World} {B : Nat} (h : No w B) (hb : Below w.heap.size w w') : No w' B := fun j hj => by
  have hl : B < w.heap.size := World.block_lt_of_cell? w ⟨B, j, none⟩ (h j hj).1
  exact ⟨(World.cell?_of_block (a := ⟨B, j, none⟩) (hb.block B hl)).trans (h j hj).1, (World.frozen?_of_block (a := ⟨B, j, none⟩) (hb.block B hl)).trans (h j hj).2⟩
theorem P10R.keep {w w' : World} (h : P10R w) (hb : Below w.heap.size w w') : P10R w' := by
  unfold P10R Lib.TabIs World.var? at *
  cases hg : Tryz.prog.globalNamed "internal/strconv.uint64pow10" with
  | none => simp [hg] at h
  | some g =>
    simp only [hg, Option.bind_some] at h ⊢
    have hlt : g < w.heap.size := by
      by_cases hx : g < w.heap.size
      · exact hx
      · rw [Array.getElem?_eq_none (by omega)] at h
        cases h
    rw [hb.block g hlt]
    exact h
set_option maxRecDepth 100000 in
theorem ftoaE_one (B : Nat) (v : Value) (w : World) (hv : RB8 B w v []) (hB : B ≤ w.heap.size) (ht : PT w) (hp : P10R w) :
    Calls Tryz.prog 98 #[v, .float .f64 4607182418800017408, .int .u8 101, .int .i64 (-1)] w fun e w' => ∃ v', e = .returned v' ∧ RB8 B w' v' [49, 101, 43, 48, 48] ∧ Below B w w' := by
  obtain ⟨p0, k0, rfl⟩ := hv.form
  have h0 := run_sbits 4607182418800017408 w
  have e1 : bits BinOp.and .u64 4607182418800017408 4503599627370495 = 0 := by rfl
  have e2 : bits BinOp.or .u64 0 4503599627370496 = 4503599627370496 := by rfl
  have e3 : bits BinOp.and .i64 1023 2047 = 1023 := by rfl
  obtain ⟨W1, hW1⟩ : ∃ x, (w.alloc (.cells #[.int .u8 0, .int .u8 0, .int .u8 0, .int .u8 0, .int .u8 0, .int .u8 0, .int .u8 0, .int .u8 0, .int .u8 0, .int .u8 0, .int .u8 0, .int .u8 0, .int .u8 0, .int .u8 0, .int .u8 0, .int .u8 0, .int .u8 0, .int .u8 0, .int .u8 0, .int .u8 0, .int .u8 0, .int .u8 0, .int .u8 0, .int .u8 0, .int .u8 0, .int .u8 0, .int .u8 0, .int .u8 0, .int .u8 0, .int .u8 0, .int .u8 0, .int .u8 0] 172)).drew = x := ⟨_, rfl⟩
  have hb1 : Below w.heap.size w W1 := by rw [← hW1]; exact drew_mono ((Below.refl _ _).alloc (Nat.le_refl _) _)
  have hn1 : No W1 w.heap.size := by rw [← hW1]; exact no_new w _
  have hs1 : W1.heap.size = w.heap.size + 1 := by rw [← hW1]; simp
  have HB1 := Lib.hid hb1
  have HN1 := Lib.hid hn1
  have HS1 := Lib.hid hs1
  have HV := Lib.hid hv
  have HT1 := Lib.hid (ht.keep hb1)
  have HP1 := Lib.hid (hp.keep hb1)
  have HH := Lib.hid hB
  clear hb1 hn1 hs1 hv ht hp hB
  go_enter Tryz.func98, Tryz.ntmps98
  go_wp2_with (first
    | (go_at_call 119; refine (len64_one _).mono ?_; rintro e w9 ⟨rfl, rfl⟩)
    | fail)
  go_region
  go_wp2_with (first
    | (go_at_call 119; refine (len64_one _).mono ?_; rintro e w9 ⟨rfl, rfl⟩)
    | (go_at_call 139; with_reducible refine (shortFloat_one W1 HT1.out).mono ?_; rintro e w2 ⟨rfl, hb⟩; have HB2 := Lib.hid hb; clear hb hW1)
    | fail)
  have hn2 : No w2.drew w.heap.size := (HN1.out.keep HB2.out).keep (drew_mono (Below.refl _ _))
  have HSD := Lib.hid (setDigits_one w.heap.size w2.drew hn2)
  have HND := Lib.hid (numDigits_one w2.drew ((HP1.out.keep HB2.out).keep (drew_mono (Below.refl _ _))))
  clear hn2
  go_region_held3 (fun w' => True) (first | trivial | fail) (first
    | (go_at_call 88; with_reducible refine HND.out.mono ?_; rintro e w9 ⟨rfl, rfl⟩)
    | (go_at_call 134; with_reducible refine HSD.out.mono ?_; rintro e w3 ⟨rfl, hc, hb⟩; have HC := Lib.hid hc; have HB3 := Lib.hid hb; clear hc hb HSD)
    | fail)
  have hb03 : Below w.heap.size w w3 := HB1.out.trans ((drew_mono (HB2.out.mono (by have := HS1.out; omega))).trans HB3.out)
  have hsz : B ≤ w3.heap.size := by have := hb03.size; have := HH.out; omega
  have HF := Lib.hid (fmtE_one B w.heap.size _ w3 (HV.out.below hb03) hsz HC.out)
  have HB03 := Lib.hid (hb03.mono HH.out)
  clear hb03
  go_wp2_with (first
    | (go_at_call 132; refine HF.out.mono ?_; rintro e w4 ⟨v', rfl, ho, hb⟩; have HO := Lib.hid ho; have HB4 := Lib.hid (HB03.out.trans hb); clear ho hb)
    | fail)
  go_ret
  exact ⟨_, rfl, HO.out, HB4.out⟩
set_option maxRecDepth 100000 in
theorem ftoaF_one (B : Nat) (v : Value) (w : World) (hv : RB8 B w v []) (hB : B ≤ w.heap.size) (ht : PT w) (hp : P10R w) :
    Calls Tryz.prog 98 #[v, .float .f64 4607182418800017408, .int .u8 102, .int .i64 (-1)] w fun e w' => ∃ v', e = .returned v' ∧ RB8 B w' v' [49] ∧ Below B w w' := by
  obtain ⟨p0, k0, rfl⟩ := hv.form
  have h0 := run_sbits 4607182418800017408 w
  have e1 : bits BinOp.and .u64 4607182418800017408 4503599627370495 = 0 := by rfl
  have e2 : bits BinOp.or .u64 0 4503599627370496 = 4503599627370496 := by rfl
  have e3 : bits BinOp.and .i64 1023 2047 = 1023 := by rfl
  obtain ⟨W1, hW1⟩ : ∃ x, (w.alloc (.cells #[.int .u8 0, .int .u8 0, .int .u8 0, .int .u8 0, .int .u8 0, .int .u8 0, .int .u8 0, .int .u8 0, .int .u8 0, .int .u8 0, .int .u8 0, .int .u8 0, .int .u8 0, .int .u8 0, .int .u8 0, .int .u8 0, .int .u8 0, .int .u8 0, .int .u8 0, .int .u8 0, .int .u8 0, .int .u8 0, .int .u8 0, .int .u8 0, .int .u8 0, .int .u8 0, .int .u8 0, .int .u8 0, .int .u8 0, .int .u8 0, .int .u8 0, .int .u8 0] 172)).drew = x := ⟨_, rfl⟩
  have hb1 : Below w.heap.size w W1 := by rw [← hW1]; exact drew_mono ((Below.refl _ _).alloc (Nat.le_refl _) _)
  have hn1 : No W1 w.heap.size := by rw [← hW1]; exact no_new w _
  have hs1 : W1.heap.size = w.heap.size + 1 := by rw [← hW1]; simp
  have HB1 := Lib.hid hb1
  have HN1 := Lib.hid hn1
  have HS1 := Lib.hid hs1
  have HV := Lib.hid hv
  have HT1 := Lib.hid (ht.keep hb1)
  have HP1 := Lib.hid (hp.keep hb1)
  have HH := Lib.hid hB
  clear hb1 hn1 hs1 hv ht hp hB
  go_enter Tryz.func98, Tryz.ntmps98
  go_wp2_with (first
    | (go_at_call 119; refine (len64_one _).mono ?_; rintro e w9 ⟨rfl, rfl⟩)
    | fail)
  go_region
  go_wp2_with (first
    | (go_at_call 119; refine (len64_one _).mono ?_; rintro e w9 ⟨rfl, rfl⟩)
    | (go_at_call 139; with_reducible refine (shortFloat_one W1 HT1.out).mono ?_; rintro e w2 ⟨rfl, hb⟩; have HB2 := Lib.hid hb; clear hb hW1)
    | fail)
  have hn2 : No w2.drew w.heap.size := (HN1.out.keep HB2.out).keep (drew_mono (Below.refl _ _))
  have HSD := Lib.hid (setDigits_one w.heap.size w2.drew hn2)
  have HND := Lib.hid (numDigits_one w2.drew ((HP1.out.keep HB2.out).keep (drew_mono (Below.refl _ _))))
  clear hn2
  go_region_held3 (fun w' => True) (first | trivial | fail) (first
    | (go_at_call 88; with_reducible refine HND.out.mono ?_; rintro e w9 ⟨rfl, rfl⟩)
    | (go_at_call 134; with_reducible refine HSD.out.mono ?_; rintro e w3 ⟨rfl, hc, hb⟩; have HC := Lib.hid hc; have HB3 := Lib.hid hb; clear hc hb HSD)
    | fail)
  have hb03 : Below w.heap.size w w3 := HB1.out.trans ((drew_mono (HB2.out.mono (by have := HS1.out; omega))).trans HB3.out)
  have hsz : B ≤ w3.heap.size := by have := hb03.size; have := HH.out; omega
  have HF := Lib.hid (fmtF_one B w.heap.size _ w3 (HV.out.below hb03) hsz HC.out)
  have HB03 := Lib.hid (hb03.mono HH.out)
  clear hb03
  go_wp2_with (first
    | (go_at_call 132; refine HF.out.mono ?_; rintro e w4 ⟨v', rfl, ho, hb⟩; have HO := Lib.hid ho; have HB4 := Lib.hid (HB03.out.trans hb); clear ho hb)
    | fail)
  go_ret
  exact ⟨_, rfl, HO.out, HB4.out⟩
end
section
open Go Go.ChangeShapes Go.WideShapes Go.RowKit
set_option linter.unusedVariables false
set_option linter.unusedSimpArgs false
def Z24 : Array Value := Array.map (fun x => [Value.int IntKind.u8 0][x % 1]?.getD default) (Array.range 24)
theorem z24_size : Z24.size = 24 := by simp [Z24]
theorem mk24 (W : World) : (Instr.makeSlice 48 (.int .i64 0) (.int .i64 (max 3 24))).run Tryz.prog W = .ok (.slice (some ⟨W.heap.size, 0, none⟩) 0 24) (W.alloc (.cells Z24 5)) := by
  simp [Instr.makeSlice, go_sem]
  rw [show IntKind.i64.wrap (max 3 24) = 24 by decide, show IntKind.i64.wrap 0 = 0 by decide, show Tryz.t5.bytes = 1 from rfl]
  simp
  rfl
set_option maxRecDepth 100000 in
theorem iformatE_one (w : World) (ht : PT w) (hp : P10R w) :
    Calls Tryz.prog 74 #[.float .f64 4607182418800017408, .int .u8 101, .int .i64 (-1), .int .i64 64] w fun e w' => e = .returned (.string ⟨#[49, 101, 43, 48, 48]⟩) ∧ Below w.heap.size w w' := by
  have hmk := mk24 w
  have hb := (Below.refl w.heap.size w).alloc (Nat.le_refl _) (.cells Z24 5)
  have HF := Lib.hid (ftoaE_one w.heap.size _ (w.alloc (.cells Z24 5)) (own_fresh z24_size (by unfold maxLen; omega) (Nat.le_refl _)) (by simp) (ht.keep hb) (hp.keep hb))
  have HB := Lib.hid hb
  clear ht hp hb
  go_enter Tryz.func74, Tryz.ntmps74
  go_wp2_with (first
    | (go_at_call 98; refine HF.out.mono ?_; rintro e w4 ⟨v', rfl, ho, hb⟩; have hcv := ho.text (by simp) (by simp); have HB4 := Lib.hid (HB.out.trans hb); rw [show strOfNums [49, 101, 43, 48, 48] = ⟨#[49, 101, 43, 48, 48]⟩ by rfl] at hcv; obtain ⟨p8, k8, rfl⟩ := ho.form; simp only [List.length_cons, List.length_nil, Nat.zero_add, Nat.reduceAdd] at hcv; clear ho hb)
    | fail)
  go_ret
  exact ⟨rfl, HB4.out⟩
set_option maxRecDepth 100000 in
theorem iformatF_one (w : World) (ht : PT w) (hp : P10R w) :
    Calls Tryz.prog 74 #[.float .f64 4607182418800017408, .int .u8 102, .int .i64 (-1), .int .i64 64] w fun e w' => e = .returned (.string ⟨#[49]⟩) ∧ Below w.heap.size w w' := by
  have hmk := mk24 w
  have hb := (Below.refl w.heap.size w).alloc (Nat.le_refl _) (.cells Z24 5)
  have HF := Lib.hid (ftoaF_one w.heap.size _ (w.alloc (.cells Z24 5)) (own_fresh z24_size (by unfold maxLen; omega) (Nat.le_refl _)) (by simp) (ht.keep hb) (hp.keep hb))
  have HB := Lib.hid hb
  clear ht hp hb
  go_enter Tryz.func74, Tryz.ntmps74
  go_wp2_with (first
    | (go_at_call 98; refine HF.out.mono ?_; rintro e w4 ⟨v', rfl, ho, hb⟩; have hcv := ho.text (by simp) (by simp); have HB4 := Lib.hid (HB.out.trans hb); rw [show strOfNums [49] = ⟨#[49]⟩ by rfl] at hcv; obtain ⟨p8, k8, rfl⟩ := ho.form; simp only [List.length_cons, List.length_nil, Nat.zero_add, Nat.reduceAdd] at hcv; clear ho hb)
    | fail)
  go_ret
  exact ⟨rfl, HB4.out⟩
theorem formatE_one (w : World) (ht : PT w) (hp : P10R w) :
    Calls Tryz.prog 46 #[.float .f64 4607182418800017408, .int .u8 101, .int .i64 (-1), .int .i64 64] w fun e w' => e = .returned (.string ⟨#[49, 101, 43, 48, 48]⟩) ∧ Below w.heap.size w w' := by
  have HF := Lib.hid (iformatE_one w ht hp)
  go_enter Tryz.func46, Tryz.ntmps46
  go_wp2_with (first | (go_at_call 74; with_reducible refine HF.out.mono ?_; rintro e w1 ⟨rfl, hb⟩; have HB := Lib.hid hb; clear hb) | fail)
  go_ret
  exact ⟨rfl, HB.out⟩
theorem formatF_one (w : World) (ht : PT w) (hp : P10R w) :
    Calls Tryz.prog 46 #[.float .f64 4607182418800017408, .int .u8 102, .int .i64 (-1), .int .i64 64] w fun e w' => e = .returned (.string ⟨#[49]⟩) ∧ Below w.heap.size w w' := by
  have HF := Lib.hid (iformatF_one w ht hp)
  go_enter Tryz.func46, Tryz.ntmps46
  go_wp2_with (first | (go_at_call 74; with_reducible refine HF.out.mono ?_; rintro e w1 ⟨rfl, hb⟩; have HB := Lib.hid hb; clear hb) | fail)
  go_ret
  exact ⟨rfl, HB.out⟩
set_option maxRecDepth 100000 in
theorem stcut_one (w : World) :
    Calls Tryz.prog 75 #[.string ⟨#[49, 101, 43, 48, 48]⟩, .string ⟨#[101]⟩] w fun e w' => e = .returned (.tuple #[.string ⟨#[49]⟩, .string ⟨#[43, 48, 48]⟩, .bool true]) ∧ Below w.heap.size w w' := by
  have hi : Calls Tryz.prog 99 #[.string ⟨#[49, 101, 43, 48, 48]⟩, .string ⟨#[101]⟩] w fun e w' => e = .returned (.int .i64 1) ∧ w = w' := by
    refine (Tryz.stringslite_Index_one ⟨#[49, 101, 43, 48, 48]⟩ 101 w).mono ?_
    rintro e w' ⟨rfl, rfl⟩
    exact ⟨by rw [show Lib.indexByte [49, 101, 43, 48, 48] 101 = 1 by decide +kernel], rfl⟩
  have HI := Lib.hid hi
  have x1 : (⟨#[49, 101, 43, 48, 48]⟩ : ByteArray).extract 0 1 = ⟨#[49]⟩ := by rfl
  have x2 : (⟨#[49, 101, 43, 48, 48]⟩ : ByteArray).extract 2 5 = ⟨#[43, 48, 48]⟩ := by rfl
  clear hi
  go_enter Tryz.func75, Tryz.ntmps75
  go_wp2_with (first | (go_at_call 99; refine HI.out.mono ?_; rintro e w9 ⟨rfl, rfl⟩) | fail)
  go_region
  go_wp2_with fail
  refine bodyPost_ret (v := .tuple #[.string ⟨#[49]⟩, .string ⟨#[43, 48, 48]⟩, .bool true]) (by simp [results, Tryz.results75, go_sem, x1, x2]) rfl ⟨rfl, drew_mono (Below.refl _ _)⟩
theorem cut_one (w : World) :
    Calls Tryz.prog 47 #[.string ⟨#[49, 101, 43, 48, 48]⟩, .string ⟨#[101]⟩] w fun e w' => e = .returned (.tuple #[.string ⟨#[49]⟩, .string ⟨#[43, 48, 48]⟩, .bool true]) ∧ Below w.heap.size w w' := by
  have HF := Lib.hid (stcut_one w)
  go_enter Tryz.func47, Tryz.ntmps47
  go_wp2_with (first | (go_at_call 75; refine HF.out.mono ?_; rintro e w1 ⟨rfl, hb⟩; have HB := Lib.hid hb; clear hb) | fail)
  refine bodyPost_ret (v := .tuple #[.string ⟨#[49]⟩, .string ⟨#[43, 48, 48]⟩, .bool true]) (by simp [results, Tryz.results47, go_sem]) rfl ⟨rfl, HB.out⟩
theorem below_bytesWorld (w : World) (e : TypeId) (s : ByteArray) : Below w.heap.size w (Lib.bytesWorld w e s) := by
  refine ⟨?_, ?_, ?_, by rw [Lib.bytesWorld_size]; omega, fun k hk => Lib.bytesWorld_at_old w e s k hk⟩ <;> simp [Lib.bytesWorld, World.freeze, World.alloc, World.drew, -World.alloc_eq, -World.drew_eq]
set_option maxRecDepth 100000 in
theorem iatoi_one (w : World) :
    Calls Tryz.prog 76 #[.string ⟨#[43, 48, 48]⟩] w fun e w' => e = .returned (.tuple #[.int .i64 0, Value.nilIface]) ∧ Below w.heap.size w w' := by
  have x1 : (⟨#[43, 48, 48]⟩ : ByteArray).extract 1 3 = ⟨#[48, 48]⟩ := by rfl
  have hcv := Lib.run_convert_string_bytes (P := Tryz.prog) w 9 48 5 ⟨#[48, 48]⟩ Tryz.underlying9 Tryz.underlying48 Tryz.underlying5
  have hc0 := Lib.bytesWorld_cell w 5 ⟨#[48, 48]⟩ 0 (by decide)
  have hc1 := Lib.bytesWorld_cell w 5 ⟨#[48, 48]⟩ 1 (by decide)
  have HB := Lib.hid (below_bytesWorld w 5 ⟨#[48, 48]⟩)
  obtain ⟨W1, hW1⟩ : ∃ x, Lib.bytesWorld w 5 ⟨#[48, 48]⟩ = x := ⟨_, rfl⟩
  obtain ⟨cp, hcp⟩ : ∃ x, grownCap w (⟨#[48, 48]⟩ : ByteArray).size 0 5 = x := ⟨_, rfl⟩
  rw [hW1, hcp] at hcv
  rw [hW1] at hc0 hc1 HB
  rw [show (⟨#[48, 48]⟩ : ByteArray).size = 2 from rfl] at hcv
  have hd0 : W1.cell? ⟨w.heap.size, 0, none⟩ = some (.int .u8 48) := hc0
  have hd1 : W1.cell? ⟨w.heap.size, 1, none⟩ = some (.int .u8 48) := hc1
  clear hW1 hcp hc0 hc1
  go_enter Tryz.func76, Tryz.ntmps76
  go_wp2_with fail
  go_loopw [6, 49] (fun s6 si wr => ∃ i : Nat, si = .int .i64 i ∧ i ≤ 2 ∧ s6 = .int .i64 0 ∧ W1 = wr) (fun s6 si wr => 2 - (RowKit.intOf si).toNat)
  case atStart => exact ⟨0, rfl, by omega, rfl, rfl⟩
  case round =>
    obtain ⟨i, rfl, hi, rfl, rfl⟩ := hrel
    have h3 : i = 0 ∨ i = 1 ∨ i = 2 := by omega
    rcases h3 with rfl | rfl | rfl
    · go_wp2_with fail
      exact ⟨⟨1, rfl, by omega, rfl, trivial⟩, by simp [RowKit.intOf]⟩
    · go_wp2_with fail
      exact ⟨⟨2, rfl, by omega, rfl, trivial⟩, by simp [RowKit.intOf]⟩
    · go_wp2_with fail
      go_ret2
      exact ⟨rfl, HB.out⟩
theorem atoi_one (w : World) :
    Calls Tryz.prog 48 #[.string ⟨#[43, 48, 48]⟩] w fun e w' => e = .returned (.tuple #[.int .i64 0, Value.nilIface]) ∧ Below w.heap.size w w' := by
  have HF := Lib.hid (iatoi_one w)
  go_enter Tryz.func48, Tryz.ntmps48
  go_wp2_with (first | (go_at_call 76; refine HF.out.mono ?_; rintro e w1 ⟨rfl, hb⟩; have HB := Lib.hid hb; clear hb) | fail)
  go_ret2
  exact ⟨rfl, HB.out⟩
end
end Go.Proofs.YtbhommcpgejbfaaGreatDoor
