/- strconv's text of 1.0, run: rows of bytes of one's own; the text from the digit. -/
import Derived.Test.YtdkbhliafilghaaGreatDoorRlT
import Derived.Test.YtdkbhliafilghaaGreatDoorApp
import Derived.Test.YtdkbhliafilghaaGreatDoorOwn
namespace Go.Proofs.YtdkbhliafilghaaGreatDoor
open Go Go.ChangeShapes Go.WideShapes Go.RowKit
set_option linter.unusedVariables false
set_option linter.unusedSimpArgs false
theorem infoU8R : (Tryz.prog.info? 5).map (fun i => (i.zero, i.size, i.bytes)) = some (some (.int .u8 0), 1, 1) := by kernel_rfl
/-- A row of bytes of one's own. -/
def RB8 (B : Nat) (w : World) (v : Value) (l : List Int) : Prop := w.ownsRow B 5 1 v l.length (l.map (Value.int .u8))
theorem RB8.below {B : Nat} {w w' : World} {v : Value} {l : List Int} (h : RB8 B w v l) (hb : Below w.heap.size w w') : RB8 B w' v l := OW.keep (k := .u8) h hb
theorem rb8_app {B : Nat} {w : World} {v : Value} {l : List Int} (h : RB8 B w v l) (hB : B ≤ w.heap.size) (cs : List Int) (hl : l.length + cs.length ≤ 1000) (ty : TypeId) :
    ∃ v' w', (Builtin.append_ #[76, 76] ty #[v, .slice (some ⟨w.heap.size, 0, none⟩) cs.length cs.length]).run Tryz.prog (w.alloc (.cells (cs.map (Value.int .u8)).toArray 5)) = .ok v' w' ∧ RB8 B w' v' (l ++ cs) ∧ Below B w w' := by
  have hB' : B ≤ (w.alloc (.cells (cs.map (Value.int .u8)).toArray 5)).heap.size := by simp; omega
  have hb1 : Below B w (w.alloc (.cells (cs.map (Value.int .u8)).toArray 5)) := (Below.refl _ _).alloc hB _
  have hsrc : Src (w.alloc (.cells (cs.map (Value.int .u8)).toArray 5)) (.slice (some ⟨w.heap.size, 0, none⟩) cs.length cs.length) cs.length (cs.map (Value.int .u8)) := by
    have h1 := src_top (w := w) (b := w.heap.size) (cs := (cs.map (Value.int .u8)).toArray) (T := 5) (c := cs.length) rfl
    simpa using h1
  obtain ⟨v', w', hrun, hap⟩ := run_app (P := Tryz.prog) (w := w.alloc (.cells (cs.map (Value.int .u8)).toArray 5)) (base := B) (ty := ty) (t := 76) (v := v) (x := .slice (some ⟨w.heap.size, 0, none⟩) cs.length cs.length) Tryz.underlying76 infoU8R rfl (h.below ((Below.refl _ _).alloc (Nat.le_refl _) _)) hsrc (by simp [Value.oneCell']) (by unfold maxLen; omega) (by omega) hB'
  refine ⟨v', w', hrun, ?_, hb1.trans (hap.below hB' fun q hq => (World.ownsRow.lt h q hq).1)⟩
  have h1 := hap.own
  unfold RB8
  rw [List.map_append, List.length_append]
  exact h1
theorem RB8.text {B : Nat} {w : World} {v : Value} {l : List Int} (h : RB8 B w v l) (hl : l.length ≤ 1000) (h0 : 0 < l.length) :
    (convert 76 9 v).run Tryz.prog w = .ok (.string (strOfNums l)) w := by
  rcases OW.rb (T := 5) h (by omega) with ⟨p, rfl, e⟩ | ⟨b, off, c, rfl, h1, h2, h3⟩
  · rw [e] at h0; simp at h0
  · exact run_convert_bytes_arg w 76 5 Tryz.underlying76 Tryz.underlying5 b off _ c l rfl h3 _ Tryz.underlying9
theorem RB8.form {B : Nat} {w : World} {v : Value} {l : List Int} (h : RB8 B w v l) : ∃ p c, v = .slice p l.length c := by
  rcases h.2 with ⟨h1, h2⟩ | ⟨g, cap, cur, h1, _⟩
  · exact ⟨_, _, by rw [h1, h2]⟩
  · exact ⟨_, _, h1⟩
theorem wpList_appR8 {P : Program} {ops : Array Oper} {rest : List Oper} {o : Oper} {a : Act} {w : World} {Q : Exit → Act → World → Prop} {t t2 : TypeId} {v x : Value} (hgd : o.guard = none) (s y : Operand) (ho : o.op = .call { callee := .builtin .append, args := #[s, y], argTypes := #[t, t2] })
    (hv : a.eval s = v) (hx : a.eval y = x) {R : Value → World → Prop} (hr : ∃ v' w', (Builtin.append_ #[t, t2] o.type #[v, x]).run P w = .ok v' w' ∧ R v' w')
    (h : ∀ v' w', R v' w' → wpList P ops Q rest (a.put o.dst v') w') : wpList P ops Q (o :: rest) a w := by
  obtain ⟨v', w', hrun, h2⟩ := hr
  refine wpList_plain hgd fun K hK => ?_
  unfold Oper.wp
  simp [execOp, ho, resolve, invoke, builtin, hv, hx, hrun, Result.andThen]
  exact hK _ _ (h v' w' h2)
set_option maxRecDepth 100000 in
theorem fmtE_one (B X : Nat) (v : Value) (w : World) (hv : RB8 B w v []) (hB : B ≤ w.heap.size) (hX : w.cell? ⟨X, 0, none⟩ = some (.int .u8 49)) :
    Calls Tryz.prog 85 #[v, .bool false, .slice (some ⟨X, 0, none⟩) 32 32, .int .i64 1, .int .i64 1, .int .i64 0, .int .u8 101, .bool true] w fun e w' => ∃ v', e = .returned v' ∧ RB8 B w' v' [49, 101, 43, 48, 48] ∧ Below B w w' := by
  obtain ⟨p0, k0, rfl⟩ := hv.form
  have HA1 := Lib.hid (rb8_app hv hB [49] (by simp))
  clear hv
  go_enter Tryz.func85, Tryz.ntmps85
  go_wp2_with (first
    | (at_builtin; refine wpList_appR8 rfl (.tmp 87) (.tmp 89) rfl rfl rfl (by exact HA1.out _) ?_; rintro v8 w1 ⟨ho, hb⟩; have HB1 := Lib.hid hb; have hw1 : B ≤ w1.heap.size := (by have h1 := HB1.out.size; omega); have HA2 := Lib.hid (rb8_app ho hw1 [101] (by simp)); obtain ⟨p1, k1, rfl⟩ := ho.form; clear ho hb HA1)
    | (at_builtin; refine wpList_appR8 rfl (.tmp 120) (.tmp 122) rfl rfl rfl (by exact HA2.out _) ?_; rintro v8 w2 ⟨ho, hb⟩; have HB2 := Lib.hid (HB1.out.trans hb); have hw2 : B ≤ w2.heap.size := (by have h1 := HB2.out.size; omega); have HA3 := Lib.hid (rb8_app ho hw2 [43] (by simp)); obtain ⟨p2, k2, rfl⟩ := ho.form; clear ho hb HA2)
    | (at_builtin; refine wpList_appR8 rfl (.tmp 132) (.tmp 134) rfl rfl rfl (by exact HA3.out _) ?_; rintro v8 w3 ⟨ho, hb⟩; have HB3 := Lib.hid (HB2.out.trans hb); have hw3 : B ≤ w3.heap.size := (by have h1 := HB3.out.size; omega); have HA4 := Lib.hid (rb8_app ho hw3 [48, 48] (by simp)); obtain ⟨p3, k3, rfl⟩ := ho.form; clear ho hb HA3)
    | (at_builtin; refine wpList_appR8 rfl (.tmp 155) (.tmp 159) rfl rfl rfl (by exact HA4.out _) ?_; rintro v8 w4 ⟨ho, hb⟩; have HB4 := Lib.hid (HB3.out.trans hb); have HO4 := Lib.hid ho; clear ho hb HA4)
    | fail)
  go_ret
  exact ⟨_, rfl, HO4.out, HB4.out⟩
set_option maxRecDepth 100000 in
theorem fmtF_one (B X : Nat) (v : Value) (w : World) (hv : RB8 B w v []) (hB : B ≤ w.heap.size) (hX : w.cell? ⟨X, 0, none⟩ = some (.int .u8 49)) :
    Calls Tryz.prog 85 #[v, .bool false, .slice (some ⟨X, 0, none⟩) 32 32, .int .i64 1, .int .i64 1, .int .i64 0, .int .u8 102, .bool true] w fun e w' => ∃ v', e = .returned v' ∧ RB8 B w' v' [49] ∧ Below B w w' := by
  obtain ⟨p0, k0, rfl⟩ := hv.form
  have HA1 := Lib.hid (rb8_app hv hB [49] (by simp))
  clear hv
  go_enter Tryz.func85, Tryz.ntmps85
  go_wp2_with fail
  go_loopw [0, 191] (fun s0 si wr => (si = .int .i64 0 ∧ s0 = .slice p0 0 k0 ∧ w = wr) ∨ (si = .int .i64 1 ∧ RB8 B wr s0 [49] ∧ Below B w wr)) (fun s0 si wr => (1 - RowKit.intOf si).toNat)
  case atStart => exact .inl ⟨rfl, rfl, rfl⟩
  case round =>
    rcases hrel with ⟨rfl, rfl, rfl⟩ | ⟨rfl, ho, hb⟩
    · go_wp2_with (first
        | (at_builtin; refine wpList_appR8 rfl (.tmp 195) (.tmp 197) rfl rfl rfl (by exact HA1.out _) ?_; rintro v8 w1 ⟨ho, hb⟩; have HB1 := Lib.hid hb; have HO1 := Lib.hid ho; clear ho hb HA1)
        | fail)
      exact ⟨.inr ⟨rfl, HO1.out, HB1.out⟩, by simp [RowKit.intOf]⟩
    · have HB1 := Lib.hid hb
      have HO1 := Lib.hid ho
      obtain ⟨p1, k1, rfl⟩ := ho.form
      clear ho hb
      go_wp2_with fail
      go_loopw [0, 203] (fun s0 si wx => s0 = .slice p1 1 k1 ∧ si = .int .i64 0 ∧ wr = wx) (fun s0 si wx => 0)
      case atStart => exact ⟨rfl, rfl, rfl⟩
      case round =>
        obtain ⟨rfl, rfl, rfl⟩ := hrel
        go_wp2_with fail
        go_ret
        exact ⟨_, rfl, HO1.out, HB1.out⟩
end Go.Proofs.YtdkbhliafilghaaGreatDoor
