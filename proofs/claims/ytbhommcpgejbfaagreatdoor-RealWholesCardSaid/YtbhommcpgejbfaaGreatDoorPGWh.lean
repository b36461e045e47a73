/- Layer 2: the document's Show: a number's text. Layer 2: the document's Read: a text's number, digit by digit. Layer 2: numbers written in digits, from the highest down: what ParseUint, the trimming and the windows of a text are. Layer 2: what Parse calls of Go's library: the sign cut, the noughts cut, a number read. -/
import Derived.Test.YtbhommcpgejbfaaGreatDoorPGWg
import Derived.Laws.BytesArg
import Derived.PlainAid
import Derived.Deep.QuietTactic
import Derived.BigQuiet
import Derived.Lib.ParseIntB
import Derived.Lib.TrimByte
import Derived.Lib.Strings
import Derived.Test.YtbhommcpgejbfaaGreatDoorShelf2
import Derived.Lib.SmallJoins
namespace Go.Proofs.YtbhommcpgejbfaaGreatDoor
section
open Go Go.ChangeShapes Go.WideShapes Go.ChangeAt Go.RowKit
set_option linter.unusedVariables false
set_option linter.unusedSimpArgs false
/-- The text's bytes, from the highest digit down. -/
def showN (neg : Bool) (ds : List Int) : List Int := (if neg then [45] else []) ++ ds.reverse.map fun d => 48 + d
def showB (neg : Bool) (ds : List Int) : ByteArray := if ds.length = 0 then ⟨#[48]⟩ else strOfNums (showN neg ds)
/-- What is written when the first m digits are still to come. -/
def showTo (neg : Bool) (ds : List Int) (m : Nat) : List Int := (if neg then [45] else []) ++ (ds.drop m).reverse.map fun d => 48 + d
theorem showTo_step (neg : Bool) (ds : List Int) (k : Nat) (h : k < ds.length) : showTo neg ds k = showTo neg ds (k + 1) ++ [48 + ds.getD k 0] := by
  unfold showTo
  rw [List.drop_eq_getElem_cons h, List.reverse_cons, List.map_append, List.getD_eq_getElem?_getD, List.getElem?_eq_getElem h, List.append_assoc]
  rfl
theorem showTo_len (neg : Bool) (ds : List Int) (m : Nat) : (showTo neg ds m).length ≤ 1 + (ds.length - m) := by
  unfold showTo
  cases neg <;> simp <;> omega
theorem showTo_pos (neg : Bool) (ds : List Int) (h : 0 < ds.length) : (showTo neg ds 0).length ≠ 0 := by
  have e : (showTo neg ds 0).length = (if neg then 1 else 0) + ds.length := by
    unfold showTo
    cases neg
    · simp
    · simp [Nat.add_comm]
  rw [e]
  omega
theorem showTo_all (neg : Bool) (ds : List Int) : showTo neg ds ds.length = if neg then [45] else [] := by
  unfold showTo; simp
theorem own_formS {w : World} {B : Nat} {T : TypeId} {v : Value} {ws : List Int} {k : IntKind} (h : OW k T w B v ws) : ∃ p c, v = .slice p ws.length c := by
  rcases h.2 with ⟨rfl, h2⟩ | ⟨g, c, cur, rfl, _⟩
  · exact ⟨none, 0, by rw [h2]⟩
  · exact ⟨_, c, rfl⟩
theorem alloc_size (w : World) (o : Obj) : (w.alloc o).heap.size = w.heap.size + 1 := by simp
theorem strSrc : Tryz.prog.underlying 48 = some (.slice 5) := Tryz.underlying48
set_option maxRecDepth 100000 in
set_option maxHeartbeats 1000000 in
theorem show_any (neg : Bool) (u : Value) (ds : List Int) (w : World) (hr : Rb w u ds) (hd : Dig 10 ds) (hl : ds.length ≤ 1000) :
    Calls Tryz.prog 16 #[.agg #[.bool neg, u]] w (fun e w' => e = .returned (.string (showB neg ds)) ∧ Below w.heap.size w w') := by
  obtain ⟨i0, hi, hz0, hz1, hz2⟩ := info_parts infoU8
  obtain ⟨p1, c1, rfl, _, _, hp1⟩ := rb_form hr
  have HP1 := Lib.hid hp1
  have HD := Lib.hid hd
  clear hr hd hp1
  by_cases h0 : ds.length = 0
  · have hz : ((ds.length : Int) == 0) = true := by simp [h0]
    have hs : showB neg ds = ⟨#[48]⟩ := if_pos h0
    go_enter Tryz.func16, Tryz.ntmps16
    go_wp2_with fail
    go_ret
    exact ⟨by rw [hs]; rfl, (Below.refl _ _).alloc (Nat.le_refl _) _⟩
  · have hz : ((ds.length : Int) == 0) = false := by rw [beq_eq_false_iff_ne]; omega
    have hs : showB neg ds = strOfNums (showTo neg ds 0) := by unfold showB showTo showN; rw [if_neg h0, List.drop_zero]
    have HS := Lib.hid hs
    have HB0 := Lib.hid (show Below w.heap.size w (w.alloc (.cells #[.bool neg, .slice p1 ds.length c1] 50)) from (Below.refl _ _).alloc (Nat.le_refl _) _)
    have HX0 := Lib.hid (show Box2 (w.alloc (.cells #[.bool neg, .slice p1 ds.length c1] 50)) w.heap.size (.bool neg) (.slice p1 ds.length c1) from Box2.new _ _ _ _ rfl)
    clear hs
    go_enter Tryz.func16, Tryz.ntmps16
    cases neg with
    | true =>
      go_wp2_with (at_builtin; refine wpList_app rfl (.tmp 11) (.tmp 12) rfl Tryz.underlying48 infoU8 rfl rfl (v := .slice none 0 0) (base := w.heap.size + 1) (n := 0) (m := 1) (xs := []) (news := [.int .u8 45]) (World.ownsRow_nil _ _ _ _) rfl (by exact src_top (by first | rfl | (simp; done))) (by simp [Value.oneCell']) (by unfold maxLen; omega) (by omega) (by simp <;> omega) ?_; intro v3 w3 hap; have HO3 := Lib.hid (show OB w3 (w.heap.size + 1) v3 (showTo true ds ds.length) from (by rw [showTo_all]; exact (show OW .u8 5 w3 (w.heap.size + 1) v3 [45] from by have := hap.own; unfold OW; simpa using this))); have HB3 := Lib.hid (show Below (w.heap.size + 1) (w.alloc (.cells #[.bool true, .slice p1 ds.length c1] 50)) w3 from ((Below.refl _ _).alloc (by simp) _).trans (hap.below (by simp <;> omega) (fun g hg => by cases hg))); have x3 := (World.cell?_of_block (a := ⟨w.heap.size, 1, none⟩) (HB3.out.block w.heap.size (by simp))).trans HX0.out.c1; obtain ⟨pv3, cv3, rfl⟩ := own_formS HO3.out; clear hap)
      go_loopw [3, 4] (fun v iv wr => ∃ (m : Nat) (i : Int), iv = .int .i64 i ∧ i + 1 = m ∧ m ≤ ds.length ∧ OB wr (w.heap.size + 1) v (showTo true ds m) ∧ Below (w.heap.size + 1) (w.alloc (.cells #[.bool true, .slice p1 ds.length c1] 50)) wr) (fun _ iv _ => (intOf iv + 1).toNat)
      case atStart => exact ⟨ds.length, (ds.length : Int) - 1, by go_num, by omega, Nat.le_refl _, HO3.out, HB3.out⟩
      case round =>
        obtain ⟨m, i, rfl, hi', hm, hO, hB⟩ := hrel
        have HO := Lib.hid hO
        have HB := Lib.hid hB
        have hsz := hB.size
        simp only [alloc_size] at hsz
        have hlen := showTo_len true ds m
        have x1 := (World.cell?_of_block (a := ⟨w.heap.size, 1, none⟩) (hB.block w.heap.size (by simp))).trans HX0.out.c1
        clear hO hB
        obtain ⟨pv, cv, rfl⟩ := own_formS HO.out
        rcases m with _ | k
        · obtain rfl : i = -1 := by omega
          have HZ := HO.out
          rcases HZ.2 with ⟨_, h2⟩ | ⟨g, cap, cur, he, hg, r1, r2, r3, r4, r5⟩
          · exact absurd h2 (showTo_pos _ ds (by omega))
          · simp only [Value.slice.injEq] at he
            obtain ⟨rfl, _, rfl⟩ := he
            have hcv := run_convert_bytes_arg (P := Tryz.prog) (w := wr) 48 5 Tryz.underlying48 Tryz.underlying5 g 0 (showTo true ds 0).length cv (showTo true ds 0) rfl (fun i hi => by
              have := (OW.rb (T := 5) HO.out (by omega))
              rcases this with ⟨p, e, e2⟩ | ⟨b2, o2, c2, e, _, _, h⟩
              · rw [e2] at hi; simp at hi
              · simp only [Value.slice.injEq, Option.some.injEq, Addr.mk.injEq, and_true] at e
                obtain ⟨⟨rfl, rfl⟩, _, rfl⟩ := e
                exact h i hi) 9 Tryz.underlying9
            rw [← HS.out] at hcv
            clear HZ
            go_wp2_with fail
            go_ret
            exact ⟨rfl, HB0.out.trans (HB.out.mono (by omega))⟩
        · obtain rfl : i = (k : Int) := by omega
          obtain ⟨b1, o1, rfl, hxx⟩ := HP1.out (by omega)
          have hcx := (World.cell?_of_block (a := ⟨b1, o1 + k, none⟩) (HB.out.block b1 (by have := World.block_lt_of_cell? _ _ (hxx k (by omega)); simp at this ⊢; omega))).trans (below_cell HB0.out (hxx k (by omega)))
          have hdk := HD.out k
          have HST := Lib.hid (showTo_step true ds k (by omega))
          clear hxx
          generalize ds.getD k 0 = d at hcx hdk HST
          have hw8 : IntKind.u8.wrap (48 + d) = 48 + d := by simp [IntKind.wrap, IntKind.signed, IntKind.bits]; omega
          go_wp2_with (at_builtin; refine wpList_app rfl (.tmp 22) (.tmp 29) rfl Tryz.underlying48 infoU8 rfl rfl (v := .slice pv (showTo true ds (k + 1)).length cv) (base := w.heap.size + 1) (n := (showTo true ds (k + 1)).length) (m := 1) (xs := (showTo true ds (k + 1)).map (Value.int .u8)) (news := [.int .u8 (48 + d)]) (World.ownsRow.alloc HO.out _) rfl (by exact src_top (by first | rfl | (simp; done))) (by simp [Value.oneCell']) (by unfold maxLen; omega) (by omega) (by simp <;> omega) ?_; intro v4 w4 hap; have HO4 := Lib.hid (show OB w4 (w.heap.size + 1) v4 (showTo true ds k) from (by rw [HST.out]; exact OW.snoc hap.own)); have HB4 := Lib.hid ((HB.out.alloc (by omega) _).trans (hap.below (by simp <;> omega) (fun g hg => (World.ownsRow.lt HO.out g hg).1))); clear hap)
          go_roundw
          case rel => exact ⟨k, (k : Int) - 1, by go_num, by omega, by omega, HO4.out, HB4.out⟩
          case measure => simp [intOf] <;> omega
    | false =>
      have HO3 := Lib.hid (show OB (w.alloc (.cells #[.bool false, .slice p1 ds.length c1] 50)) (w.heap.size + 1) (.slice none 0 0) (showTo false ds ds.length) by rw [showTo_all]; exact OW.nil _ _)
      have HB3 := Lib.hid (show Below (w.heap.size + 1) (w.alloc (.cells #[.bool false, .slice p1 ds.length c1] 50)) (w.alloc (.cells #[.bool false, .slice p1 ds.length c1] 50)) from Below.refl _ _)
      go_wp2_with fail
      go_loopw [3, 4] (fun v iv wr => ∃ (m : Nat) (i : Int), iv = .int .i64 i ∧ i + 1 = m ∧ m ≤ ds.length ∧ OB wr (w.heap.size + 1) v (showTo false ds m) ∧ Below (w.heap.size + 1) (w.alloc (.cells #[.bool false, .slice p1 ds.length c1] 50)) wr) (fun _ iv _ => (intOf iv + 1).toNat)
      case atStart => exact ⟨ds.length, (ds.length : Int) - 1, by go_num, by omega, Nat.le_refl _, HO3.out, HB3.out⟩
      case round =>
        obtain ⟨m, i, rfl, hi', hm, hO, hB⟩ := hrel
        have HO := Lib.hid hO
        have HB := Lib.hid hB
        have hsz := hB.size
        simp only [alloc_size] at hsz
        have hlen := showTo_len false ds m
        have x1 := (World.cell?_of_block (a := ⟨w.heap.size, 1, none⟩) (hB.block w.heap.size (by simp))).trans HX0.out.c1
        clear hO hB
        obtain ⟨pv, cv, rfl⟩ := own_formS HO.out
        rcases m with _ | k
        · obtain rfl : i = -1 := by omega
          have HZ := HO.out
          rcases HZ.2 with ⟨_, h2⟩ | ⟨g, cap, cur, he, hg, r1, r2, r3, r4, r5⟩
          · exact absurd h2 (showTo_pos _ ds (by omega))
          · simp only [Value.slice.injEq] at he
            obtain ⟨rfl, _, rfl⟩ := he
            have hcv := run_convert_bytes_arg (P := Tryz.prog) (w := wr) 48 5 Tryz.underlying48 Tryz.underlying5 g 0 (showTo false ds 0).length cv (showTo false ds 0) rfl (fun i hi => by
              have := (OW.rb (T := 5) HO.out (by omega))
              rcases this with ⟨p, e, e2⟩ | ⟨b2, o2, c2, e, _, _, h⟩
              · rw [e2] at hi; simp at hi
              · simp only [Value.slice.injEq, Option.some.injEq, Addr.mk.injEq, and_true] at e
                obtain ⟨⟨rfl, rfl⟩, _, rfl⟩ := e
                exact h i hi) 9 Tryz.underlying9
            rw [← HS.out] at hcv
            clear HZ
            go_wp2_with fail
            go_ret
            exact ⟨rfl, HB0.out.trans (HB.out.mono (by omega))⟩
        · obtain rfl : i = (k : Int) := by omega
          obtain ⟨b1, o1, rfl, hxx⟩ := HP1.out (by omega)
          have hcx := (World.cell?_of_block (a := ⟨b1, o1 + k, none⟩) (HB.out.block b1 (by have := World.block_lt_of_cell? _ _ (hxx k (by omega)); simp at this ⊢; omega))).trans (below_cell HB0.out (hxx k (by omega)))
          have hdk := HD.out k
          have HST := Lib.hid (showTo_step false ds k (by omega))
          clear hxx
          generalize ds.getD k 0 = d at hcx hdk HST
          have hw8 : IntKind.u8.wrap (48 + d) = 48 + d := by simp [IntKind.wrap, IntKind.signed, IntKind.bits]; omega
          go_wp2_with (at_builtin; refine wpList_app rfl (.tmp 22) (.tmp 29) rfl Tryz.underlying48 infoU8 rfl rfl (v := .slice pv (showTo false ds (k + 1)).length cv) (base := w.heap.size + 1) (n := (showTo false ds (k + 1)).length) (m := 1) (xs := (showTo false ds (k + 1)).map (Value.int .u8)) (news := [.int .u8 (48 + d)]) (World.ownsRow.alloc HO.out _) rfl (by exact src_top (by first | rfl | (simp; done))) (by simp [Value.oneCell']) (by unfold maxLen; omega) (by omega) (by simp <;> omega) ?_; intro v4 w4 hap; have HO4 := Lib.hid (show OB w4 (w.heap.size + 1) v4 (showTo false ds k) from (by rw [HST.out]; exact OW.snoc hap.own)); have HB4 := Lib.hid ((HB.out.alloc (by omega) _).trans (hap.below (by simp <;> omega) (fun g hg => (World.ownsRow.lt HO.out g hg).1))); clear hap)
          go_roundw
          case rel => exact ⟨k, (k : Int) - 1, by go_num, by omega, by omega, HO4.out, HB4.out⟩
          case measure => simp [intOf] <;> omega
end
section
open Go Go.ChangeShapes Go.WideShapes Go.ChangeAt Go.RowKit Go.PlainAid
set_option linter.unusedVariables false
set_option linter.unusedSimpArgs false
/-- The digits from place m on, the lowest first. -/
def rdN (s : ByteArray) (m : Nat) : List Int := (List.range (s.size - m)).map fun j => bt s (s.size - 1 - j) - 48
theorem rdN_len (s : ByteArray) (m : Nat) : (rdN s m).length = s.size - m := by simp [rdN]
theorem rdN_end (s : ByteArray) : rdN s s.size = [] := by simp [rdN]
theorem rdN_step (s : ByteArray) (k : Nat) (h : k < s.size) : rdN s k = rdN s (k + 1) ++ [bt s k - 48] := by
  unfold rdN
  rw [show s.size - k = (s.size - (k + 1)) + 1 by omega, List.range_succ, List.map_append]
  simp only [List.map_cons, List.map_nil]
  rw [show s.size - 1 - (s.size - (k + 1)) = k by omega]
/-- All bytes from m on are digits. -/
def DigsFrom (s : ByteArray) (m : Nat) : Prop := ∀ k, m ≤ k → k < s.size → 48 ≤ bt s k ∧ bt s k ≤ 57
theorem rdN_dig {s : ByteArray} {m : Nat} (h : DigsFrom s m) : Dig 10 (rdN s m) := fun i => by
  unfold rdN
  rw [List.getD_eq_getElem?_getD, List.getElem?_map]
  by_cases hi : i < s.size - m
  · rw [List.getElem?_range hi]
    have := h (s.size - 1 - i) (by omega) (by omega)
    simp only [Option.map_some, Option.getD_some]
    omega
  · rw [List.getElem?_eq_none (by simpa using hi)]; simp
theorem DigsFrom.step {s : ByteArray} {k : Nat} (h : DigsFrom s (k + 1)) (h0 : 48 ≤ bt s k) (h1 : bt s k ≤ 57) : DigsFrom s k := fun j hj hl => by
  by_cases e : j = k
  · subst e; exact ⟨h0, h1⟩
  · exact h j (by omega) hl
def negT (s : ByteArray) : Bool := decide (0 < s.size) && bt s 0 == 45
def fromT (s : ByteArray) : Nat := if negT s then 1 else 0
def OkT (s : ByteArray) : Prop := fromT s < s.size ∧ DigsFrom s (fromT s)
def numT (s : ByteArray) : Int := sg (negT s) (val 10 (rdN s (fromT s)))
/-- What a text is read as; b: the base of the row that is answered. -/
def TQ (b : Int) (s : ByteArray) (neg : Bool) (ds : List Int) (f : Int) : Prop :=
  (¬ OkT s ∧ neg = false ∧ ds = [] ∧ f = 4) ∨ (OkT s ∧ ¬ Small (numT s) ∧ neg = false ∧ ds = [] ∧ f = 2) ∨ (OkT s ∧ Small (numT s) ∧ f = 0 ∧ Sgn b neg ds (numT s))
def ReadPost (W : World) (s : ByteArray) (e : Ending) (w' : World) : Prop :=
  ∃ neg u ds f, e = .returned (.tuple #[.agg #[.bool neg, u], .int .i64 f]) ∧ Rb w' u ds ∧ TQ 10 s neg ds f ∧ Below W.heap.size W w'
theorem sgn_cut {neg : Bool} {ds : List Int} {k : Nat} (hk : CutAt ds k) (hd : Dig 10 ds) : Sgn 10 (neg && decide (0 < k)) (ds.take k) (sg neg (val 10 ds)) := by
  obtain ⟨h1, h2, h3⟩ := hk.canon (b := 10) (by decide) hd
  refine ⟨h1, fun e => ?_, ?_⟩
  · rw [h3]
    simp at e
    exact e.2
  · by_cases h0 : 0 < k
    · rw [decide_eq_true h0, Bool.and_true, h2]
    · obtain rfl : k = 0 := by omega
      rw [List.take_zero] at h2
      rw [← h2]
      cases neg <;> rfl
theorem ReadPost.bad {w w' : World} {s : ByteArray} (h : ¬ OkT s) (hb : Below w.heap.size w w') : ReadPost w s (.returned (.tuple #[.agg #[.bool false, .slice none 0 0], .int .i64 4])) w' :=
  ⟨false, _, [], 4, rfl, .inl ⟨none, rfl, rfl⟩, .inl ⟨h, rfl, rfl, rfl⟩, hb⟩
end
section
open Go Go.ChangeShapes Go.WideShapes Go.ChangeAt Go.RowKit Go.PlainAid
set_option linter.unusedVariables false
set_option linter.unusedSimpArgs false
/-- The number that digits spell, the highest first. -/
def spell : List UInt8 → Int
  | [] => 0
  | c :: r => ((c.toNat : Int) - 48) * 10 ^ r.length + spell r
theorem spell_append (a b : List UInt8) : spell (a ++ b) = spell a * 10 ^ b.length + spell b := by
  induction a with
  | nil => simp [spell]
  | cons c r ih =>
    simp only [List.cons_append, spell, ih, List.length_append]
    rw [Int.pow_add, Int.add_mul, Int.mul_assoc]
    omega
def AllDig (l : List UInt8) : Prop := ∀ c ∈ l, 48 ≤ c.toNat ∧ c.toNat ≤ 57
theorem spell_bd {l : List UInt8} (h : AllDig l) : 0 ≤ spell l ∧ spell l < 10 ^ l.length := by
  induction l with
  | nil => simp [spell]
  | cons c r ih =>
    have h1 := ih fun x hx => h x (by simp [hx])
    have h2 := h c (by simp)
    have h3 : (0 : Int) < 10 ^ r.length := pow_pos' (by decide) _
    simp only [spell, List.length_cons, Int.pow_succ]
    have h4 : 0 ≤ ((c.toNat : Int) - 48) * 10 ^ r.length := Int.mul_nonneg (by omega) (by omega)
    have h5 : ((c.toNat : Int) - 48) * 10 ^ r.length ≤ 9 * 10 ^ r.length := Int.mul_le_mul_of_nonneg_right (by omega) (by omega)
    omega
theorem bt_list (s : ByteArray) {k : Nat} (h : k < s.size) : bt s k = ((s.data.toList[k]'(by rw [← Lib.size_eq]; exact h)).toNat : Int) := by
  unfold bt
  rw [dif_pos h]
  simp
  rfl
theorem rdN_spell (s : ByteArray) : ∀ (n m : Nat), s.size - m = n → val 10 (rdN s m) = spell (s.data.toList.drop m)
  | 0, m, h => by
    have e : rdN s m = [] := List.length_eq_zero_iff.1 (by rw [rdN_len]; exact h)
    rw [e, List.drop_eq_nil_iff.2 (by rw [← Lib.size_eq]; omega)]
    rfl
  | n + 1, m, h => by
    have hm : m < s.size := by omega
    rw [rdN_step s m hm, val_append, rdN_spell s n (m + 1) (by omega), rdN_len, List.drop_eq_getElem_cons (i := m) (by rw [← Lib.size_eq]; exact hm), bt_list s hm]
    simp only [spell, val, List.length_drop]
    have hsz := Lib.size_eq s
    generalize ((s.data.toList[m]'(by rw [← Lib.size_eq]; exact hm)).toNat : Int) = d
    rw [← hsz, Int.mul_zero, Int.add_zero, Int.mul_comm (10 ^ _)]
    omega
theorem parseM_ok (M : Nat) (hM : 18446744073709551615 ≤ M) (l : List UInt8) : ∀ (acc : Nat), AllDig l → (acc : Int) * 10 ^ l.length + spell l < 1000000000000000000 → ∃ u : Nat, Lib.parseUintM M acc l = .ok u ∧ (u : Int) = (acc : Int) * 10 ^ l.length + spell l := by
  induction l with
  | nil => intro acc _ h; exact ⟨acc, by simp [Lib.parseUintM], by simp [spell]⟩
  | cons c r ih =>
    intro acc hd h
    have hc := hd c (by simp)
    have hr : AllDig r := fun x hx => hd x (by simp [hx])
    have hb := spell_bd hr
    have hp : (0 : Int) < 10 ^ r.length := pow_pos' (by decide) _
    simp only [spell, List.length_cons, Int.pow_succ] at h
    have e1 : (acc : Int) * (10 ^ r.length * 10) = (acc : Int) * 10 * 10 ^ r.length := by rw [Int.mul_comm (10 ^ r.length) 10, Int.mul_assoc]
    have e : (((acc * 10 + (c.toNat - 48) : Nat) : Int)) * 10 ^ r.length + spell r = (acc : Int) * (10 ^ r.length * 10) + (((c.toNat : Int) - 48) * 10 ^ r.length + spell r) := by
      rw [e1]
      have : ((acc * 10 + (c.toNat - 48) : Nat) : Int) = (acc : Int) * 10 + ((c.toNat : Int) - 48) := by omega
      rw [this, Int.add_mul]
      omega
    have hle : ((acc * 10 + (c.toNat - 48) : Nat) : Int) * 1 ≤ ((acc * 10 + (c.toNat - 48) : Nat) : Int) * 10 ^ r.length := Int.mul_le_mul_of_nonneg_left (by omega) (by omega)
    have hlt : ((acc * 10 + (c.toNat - 48) : Nat) : Int) < 1000000000000000000 := by omega
    obtain ⟨u, h1, h2⟩ := ih (acc * 10 + (c.toNat - 48)) hr (by rw [e]; exact h)
    refine ⟨u, ?_, by rw [h2, e]; simp only [spell, List.length_cons, Int.pow_succ]⟩
    unfold Lib.parseUintM
    rw [if_pos hc, if_neg (by omega), if_neg (by omega)]
    exact h1
theorem parse_ok {l : List UInt8} (h0 : l ≠ []) (hd : AllDig l) (hl : l.length ≤ 18) : ∃ u : Nat, Lib.parseUintB 64 l = .ok u ∧ (u : Int) = spell l := by
  have hb := spell_bd hd
  have hp : (10 : Int) ^ l.length ≤ 10 ^ 18 := by
    have : (10 : Int) ^ 18 = 10 ^ l.length * 10 ^ (18 - l.length) := by rw [← Int.pow_add]; congr 1; omega
    rw [this]
    have h1 : (0 : Int) < 10 ^ l.length := pow_pos' (by decide) _
    have h2 : (0 : Int) < 10 ^ (18 - l.length) := pow_pos' (by decide) _
    have := Int.mul_le_mul_of_nonneg_left (show (1 : Int) ≤ 10 ^ (18 - l.length) by omega) (show (0 : Int) ≤ 10 ^ l.length by omega)
    omega
  have h18 : (10 : Int) ^ 18 = 1000000000000000000 := by decide
  rw [h18] at hp
  obtain ⟨u, h1, h2⟩ := parseM_ok (2 ^ 64 - 1) (by decide) l 0 hd (by simp only [Int.ofNat_zero, Int.zero_mul, Int.zero_add]; omega)
  refine ⟨u, ?_, by rw [h2]; simp only [Int.ofNat_zero, Int.zero_mul, Int.zero_add]⟩
  unfold Lib.parseUintB
  rw [if_neg h0]
  exact h1
end
section
open Go Go.ChangeShapes Go.WideShapes Go.ChangeAt Go.RowKit Go.PlainAid Go.Joins
set_option linter.unusedVariables false
set_option linter.unusedSimpArgs false
def bodyT (s : ByteArray) : ByteArray := ⟨(s.data.toList.drop (fromT s)).toArray⟩
theorem list_size (l : List UInt8) : (⟨l.toArray⟩ : ByteArray).size = l.length := by rw [Lib.size_eq]
theorem hasPrefixT (s : ByteArray) : Lib.hasPrefix s.data.toList [45] = negT s := by
  unfold Lib.hasPrefix negT
  have hs := Lib.size_eq s
  by_cases h0 : s.size = 0
  · have : s.data.toList = [] := List.length_eq_zero_iff.1 (by omega)
    rw [this, h0]; rfl
  · obtain ⟨c, r, hl⟩ : ∃ c r, s.data.toList = c :: r := by
      cases hl : s.data.toList with
      | nil => exact absurd (show s.size = 0 by rw [Lib.size_eq, hl]; rfl) h0
      | cons c r => exact ⟨c, r, rfl⟩
    have hb : bt s 0 = (c.toNat : Int) := by rw [bt_list s (by omega)]; simp only [hl, List.getElem_cons_zero]
    rw [hb, hl, decide_eq_true (show 0 < s.size by omega), Bool.true_and]
    simp only [List.isPrefixOf, Bool.and_true]
    rw [Bool.eq_iff_iff, beq_iff_eq, beq_iff_eq]
    constructor
    · intro e; subst e; rfl
    · intro e
      have : c.toNat = 45 := by omega
      exact (UInt8.toNat_inj.1 (by rw [this]; rfl)).symm
theorem trimPrefixT (s : ByteArray) : Lib.trimPrefix s.data.toList [45] = s.data.toList.drop (fromT s) := by
  unfold Lib.trimPrefix fromT
  rw [hasPrefixT]
  cases negT s <;> simp
theorem cutPrefix_any (s : ByteArray) (w : World) : Calls Tryz.prog 43 #[.string s, .string ⟨#[45]⟩] w fun e w' => e = .returned (.tuple #[.string (bodyT s), .bool (negT s)]) ∧ w' = w := by
  have h := Tryz.strings_CutPrefix s ⟨#[45]⟩ w
  rw [show (⟨#[45]⟩ : ByteArray).data.toList = [45] from rfl, hasPrefixT, trimPrefixT] at h
  exact h
def trimT (s : ByteArray) : ByteArray := ⟨(s.data.toList.dropWhile (· == 48)).toArray⟩
end
end Go.Proofs.YtbhommcpgejbfaaGreatDoor
