/- Layer 2: the document's Show: a number's text. -/
import Derived.Test.YticebchmafipiaaDoorLawNum2
import Derived.Laws.BytesArg
import Derived.Test.YticebchmafipiaaDoorApp
namespace Go.Proofs.YticebchmafipiaaDoor
open Go Go.ChangeShapes Go.WideShapes Go.ChangeAt Go.RowKit
set_option linter.unusedVariables false
set_option linter.unusedSimpArgs false
/-- The text's bytes, from the highest digit down. -/
def showN (neg : Bool) (ds : List Int) : List Int := (if neg then [45] else []) ++ ds.reverse.map fun d => 48 + d
def showB (neg : Bool) (ds : List Int) : ByteArray := if ds.length = 0 then ⟨#[48]⟩ else strOfNums (showN neg ds)
/-- What is written when the first m digits are still to come. -/
def showTo (neg : Bool) (ds : List Int) (m : Nat) : List Int := (if neg then [45] else []) ++ (ds.drop m).reverse.map fun d => 48 + d
theorem showTo_step (neg : Bool) (ds : List Int) (k : Nat) (h : k < ds.length) : showTo neg ds k = showTo neg ds (k + 1) ++ [48 + ds.getD k 0] := by
  unfold showTo
  rw [List.drop_eq_getElem_cons h, List.reverse_cons, List.map_append, List.getD_eq_getElem?_getD, List.getElem?_eq_getElem h, List.append_assoc]
  rfl
theorem showTo_len (neg : Bool) (ds : List Int) (m : Nat) : (showTo neg ds m).length ≤ 1 + (ds.length - m) := by
  unfold showTo
  cases neg <;> simp <;> omega
theorem showTo_pos (neg : Bool) (ds : List Int) (h : 0 < ds.length) : (showTo neg ds 0).length ≠ 0 := by
  have e : (showTo neg ds 0).length = (if neg then 1 else 0) + ds.length := by
    unfold showTo
    cases neg
    · simp
    · simp [Nat.add_comm]
  rw [e]
  omega
theorem showTo_all (neg : Bool) (ds : List Int) : showTo neg ds ds.length = if neg then [45] else [] := by
  unfold showTo; simp
theorem own_formS {w : World} {B : Nat} {T : TypeId} {v : Value} {ws : List Int} {k : IntKind} (h : OW k T w B v ws) : ∃ p c, v = .slice p ws.length c := by
  rcases h.2 with ⟨rfl, h2⟩ | ⟨g, c, cur, rfl, _⟩
  · exact ⟨none, 0, by rw [h2]⟩
  · exact ⟨_, c, rfl⟩
theorem alloc_size (w : World) (o : Obj) : (w.alloc o).heap.size = w.heap.size + 1 := by simp
theorem strSrc : Tryd.prog.underlying 26 = some (.slice 5) := Tryd.underlying26
set_option maxRecDepth 100000 in
set_option maxHeartbeats 1000000 in
theorem show_any (neg : Bool) (u : Value) (ds : List Int) (w : World) (hr : Rb w u ds) (hd : Dig 10 ds) (hl : ds.length ≤ 1000) :
    Calls Tryd.prog 11 #[.agg #[.bool neg, u]] w (fun e w' => e = .returned (.string (showB neg ds)) ∧ Below w.heap.size w w') := by
  obtain ⟨i0, hi, hz0, hz1, hz2⟩ := info_parts infoU8
  obtain ⟨p1, c1, rfl, _, _, hp1⟩ := rb_form hr
  have HP1 := Lib.hid hp1
  have HD := Lib.hid hd
  clear hr hd hp1
  by_cases h0 : ds.length = 0
  · have hz : ((ds.length : Int) == 0) = true := by simp [h0]
    have hs : showB neg ds = ⟨#[48]⟩ := if_pos h0
    go_enter Tryd.func11, Tryd.ntmps11
    go_wp2_with fail
    go_ret
    exact ⟨by rw [hs]; rfl, (Below.refl _ _).alloc (Nat.le_refl _) _⟩
  · have hz : ((ds.length : Int) == 0) = false := by rw [beq_eq_false_iff_ne]; omega
    have hs : showB neg ds = strOfNums (showTo neg ds 0) := by unfold showB showTo showN; rw [if_neg h0, List.drop_zero]
    have HS := Lib.hid hs
    have HB0 := Lib.hid (show Below w.heap.size w (w.alloc (.cells #[.bool neg, .slice p1 ds.length c1] 28)) from (Below.refl _ _).alloc (Nat.le_refl _) _)
    have HX0 := Lib.hid (show Box2 (w.alloc (.cells #[.bool neg, .slice p1 ds.length c1] 28)) w.heap.size (.bool neg) (.slice p1 ds.length c1) from Box2.new _ _ _ _ rfl)
    clear hs
    go_enter Tryd.func11, Tryd.ntmps11
    cases neg with
    | true =>
      go_wp2_with (at_builtin; refine wpList_app rfl (.tmp 11) (.tmp 12) rfl Tryd.underlying26 infoU8 rfl rfl (v := .slice none 0 0) (base := w.heap.size + 1) (n := 0) (m := 1) (xs := []) (news := [.int .u8 45]) (World.ownsRow_nil _ _ _ _) rfl (by exact src_top (by first | rfl | (simp; done))) (by simp [Value.oneCell']) (by unfold maxLen; omega) (by omega) (by simp <;> omega) ?_; intro v3 w3 hap; have HO3 := Lib.hid (show OB w3 (w.heap.size + 1) v3 (showTo true ds ds.length) from (by rw [showTo_all]; exact (show OW .u8 5 w3 (w.heap.size + 1) v3 [45] from by have := hap.own; unfold OW; simpa using this))); have HB3 := Lib.hid (show Below (w.heap.size + 1) (w.alloc (.cells #[.bool true, .slice p1 ds.length c1] 28)) w3 from ((Below.refl _ _).alloc (by simp) _).trans (hap.below (by simp <;> omega) (fun g hg => by cases hg))); have x3 := (World.cell?_of_block (a := ⟨w.heap.size, 1, none⟩) (HB3.out.block w.heap.size (by simp))).trans HX0.out.c1; obtain ⟨pv3, cv3, rfl⟩ := own_formS HO3.out; clear hap)
      go_loopw [3, 4] (fun v iv wr => ∃ (m : Nat) (i : Int), iv = .int .i64 i ∧ i + 1 = m ∧ m ≤ ds.length ∧ OB wr (w.heap.size + 1) v (showTo true ds m) ∧ Below (w.heap.size + 1) (w.alloc (.cells #[.bool true, .slice p1 ds.length c1] 28)) wr) (fun _ iv _ => (intOf iv + 1).toNat)
      case atStart => exact ⟨ds.length, (ds.length : Int) - 1, by go_num, by omega, Nat.le_refl _, HO3.out, HB3.out⟩
      case round =>
        obtain ⟨m, i, rfl, hi', hm, hO, hB⟩ := hrel
        have HO := Lib.hid hO
        have HB := Lib.hid hB
        have hsz := hB.size
        simp only [alloc_size] at hsz
        have hlen := showTo_len true ds m
        have x1 := (World.cell?_of_block (a := ⟨w.heap.size, 1, none⟩) (hB.block w.heap.size (by simp))).trans HX0.out.c1
        clear hO hB
        obtain ⟨pv, cv, rfl⟩ := own_formS HO.out
        rcases m with _ | k
        · obtain rfl : i = -1 := by omega
          have HZ := HO.out
          rcases HZ.2 with ⟨_, h2⟩ | ⟨g, cap, cur, he, hg, r1, r2, r3, r4, r5⟩
          · exact absurd h2 (showTo_pos _ ds (by omega))
          · simp only [Value.slice.injEq] at he
            obtain ⟨rfl, _, rfl⟩ := he
            have hcv := run_convert_bytes_arg (P := Tryd.prog) (w := wr) 26 5 Tryd.underlying26 Tryd.underlying5 g 0 (showTo true ds 0).length cv (showTo true ds 0) rfl (fun i hi => by
              have := (OW.rb (T := 5) HO.out (by omega))
              rcases this with ⟨p, e, e2⟩ | ⟨b2, o2, c2, e, _, _, h⟩
              · rw [e2] at hi; simp at hi
              · simp only [Value.slice.injEq, Option.some.injEq, Addr.mk.injEq, and_true] at e
                obtain ⟨⟨rfl, rfl⟩, _, rfl⟩ := e
                exact h i hi) 9 Tryd.underlying9
            rw [← HS.out] at hcv
            clear HZ
            go_wp2_with fail
            go_ret
            exact ⟨rfl, HB0.out.trans (HB.out.mono (by omega))⟩
        · obtain rfl : i = (k : Int) := by omega
          obtain ⟨b1, o1, rfl, hxx⟩ := HP1.out (by omega)
          have hcx := (World.cell?_of_block (a := ⟨b1, o1 + k, none⟩) (HB.out.block b1 (by have := World.block_lt_of_cell? _ _ (hxx k (by omega)); simp at this ⊢; omega))).trans (below_cell HB0.out (hxx k (by omega)))
          have hdk := HD.out k
          have HST := Lib.hid (showTo_step true ds k (by omega))
          clear hxx
          generalize ds.getD k 0 = d at hcx hdk HST
          have hw8 : IntKind.u8.wrap (48 + d) = 48 + d := by simp [IntKind.wrap, IntKind.signed, IntKind.bits]; omega
          go_wp2_with (at_builtin; refine wpList_app rfl (.tmp 22) (.tmp 29) rfl Tryd.underlying26 infoU8 rfl rfl (v := .slice pv (showTo true ds (k + 1)).length cv) (base := w.heap.size + 1) (n := (showTo true ds (k + 1)).length) (m := 1) (xs := (showTo true ds (k + 1)).map (Value.int .u8)) (news := [.int .u8 (48 + d)]) (World.ownsRow.alloc HO.out _) rfl (by exact src_top (by first | rfl | (simp; done))) (by simp [Value.oneCell']) (by unfold maxLen; omega) (by omega) (by simp <;> omega) ?_; intro v4 w4 hap; have HO4 := Lib.hid (show OB w4 (w.heap.size + 1) v4 (showTo true ds k) from (by rw [HST.out]; exact OW.snoc hap.own)); have HB4 := Lib.hid ((HB.out.alloc (by omega) _).trans (hap.below (by simp <;> omega) (fun g hg => (World.ownsRow.lt HO.out g hg).1))); clear hap)
          go_roundw
          case rel => exact ⟨k, (k : Int) - 1, by go_num, by omega, by omega, HO4.out, HB4.out⟩
          case measure => simp [intOf] <;> omega
    | false =>
      have HO3 := Lib.hid (show OB (w.alloc (.cells #[.bool false, .slice p1 ds.length c1] 28)) (w.heap.size + 1) (.slice none 0 0) (showTo false ds ds.length) by rw [showTo_all]; exact OW.nil _ _)
      have HB3 := Lib.hid (show Below (w.heap.size + 1) (w.alloc (.cells #[.bool false, .slice p1 ds.length c1] 28)) (w.alloc (.cells #[.bool false, .slice p1 ds.length c1] 28)) from Below.refl _ _)
      go_wp2_with fail
      go_loopw [3, 4] (fun v iv wr => ∃ (m : Nat) (i : Int), iv = .int .i64 i ∧ i + 1 = m ∧ m ≤ ds.length ∧ OB wr (w.heap.size + 1) v (showTo false ds m) ∧ Below (w.heap.size + 1) (w.alloc (.cells #[.bool false, .slice p1 ds.length c1] 28)) wr) (fun _ iv _ => (intOf iv + 1).toNat)
      case atStart => exact ⟨ds.length, (ds.length : Int) - 1, by go_num, by omega, Nat.le_refl _, HO3.out, HB3.out⟩
      case round =>
        obtain ⟨m, i, rfl, hi', hm, hO, hB⟩ := hrel
        have HO := Lib.hid hO
        have HB := Lib.hid hB
        have hsz := hB.size
        simp only [alloc_size] at hsz
        have hlen := showTo_len false ds m
        have x1 := (World.cell?_of_block (a := ⟨w.heap.size, 1, none⟩) (hB.block w.heap.size (by simp))).trans HX0.out.c1
        clear hO hB
        obtain ⟨pv, cv, rfl⟩ := own_formS HO.out
        rcases m with _ | k
        · obtain rfl : i = -1 := by omega
          have HZ := HO.out
          rcases HZ.2 with ⟨_, h2⟩ | ⟨g, cap, cur, he, hg, r1, r2, r3, r4, r5⟩
          · exact absurd h2 (showTo_pos _ ds (by omega))
          · simp only [Value.slice.injEq] at he
            obtain ⟨rfl, _, rfl⟩ := he
            have hcv := run_convert_bytes_arg (P := Tryd.prog) (w := wr) 26 5 Tryd.underlying26 Tryd.underlying5 g 0 (showTo false ds 0).length cv (showTo false ds 0) rfl (fun i hi => by
              have := (OW.rb (T := 5) HO.out (by omega))
              rcases this with ⟨p, e, e2⟩ | ⟨b2, o2, c2, e, _, _, h⟩
              · rw [e2] at hi; simp at hi
              · simp only [Value.slice.injEq, Option.some.injEq, Addr.mk.injEq, and_true] at e
                obtain ⟨⟨rfl, rfl⟩, _, rfl⟩ := e
                exact h i hi) 9 Tryd.underlying9
            rw [← HS.out] at hcv
            clear HZ
            go_wp2_with fail
            go_ret
            exact ⟨rfl, HB0.out.trans (HB.out.mono (by omega))⟩
        · obtain rfl : i = (k : Int) := by omega
          obtain ⟨b1, o1, rfl, hxx⟩ := HP1.out (by omega)
          have hcx := (World.cell?_of_block (a := ⟨b1, o1 + k, none⟩) (HB.out.block b1 (by have := World.block_lt_of_cell? _ _ (hxx k (by omega)); simp at this ⊢; omega))).trans (below_cell HB0.out (hxx k (by omega)))
          have hdk := HD.out k
          have HST := Lib.hid (showTo_step false ds k (by omega))
          clear hxx
          generalize ds.getD k 0 = d at hcx hdk HST
          have hw8 : IntKind.u8.wrap (48 + d) = 48 + d := by simp [IntKind.wrap, IntKind.signed, IntKind.bits]; omega
          go_wp2_with (at_builtin; refine wpList_app rfl (.tmp 22) (.tmp 29) rfl Tryd.underlying26 infoU8 rfl rfl (v := .slice pv (showTo false ds (k + 1)).length cv) (base := w.heap.size + 1) (n := (showTo false ds (k + 1)).length) (m := 1) (xs := (showTo false ds (k + 1)).map (Value.int .u8)) (news := [.int .u8 (48 + d)]) (World.ownsRow.alloc HO.out _) rfl (by exact src_top (by first | rfl | (simp; done))) (by simp [Value.oneCell']) (by unfold maxLen; omega) (by omega) (by simp <;> omega) ?_; intro v4 w4 hap; have HO4 := Lib.hid (show OB w4 (w.heap.size + 1) v4 (showTo false ds k) from (by rw [HST.out]; exact OW.snoc hap.own)); have HB4 := Lib.hid ((HB.out.alloc (by omega) _).trans (hap.below (by simp <;> omega) (fun g hg => (World.ownsRow.lt HO.out g hg).1))); clear hap)
          go_roundw
          case rel => exact ⟨k, (k : Int) - 1, by go_num, by omega, by omega, HO4.out, HB4.out⟩
          case measure => simp [intOf] <;> omega
end Go.Proofs.YticebchmafipiaaDoor
