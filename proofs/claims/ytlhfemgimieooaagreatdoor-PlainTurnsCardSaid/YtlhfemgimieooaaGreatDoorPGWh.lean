/- Layer 2: the document's Show: a number's text. -/
import Derived.Test.YtlhfemgimieooaaGreatDoorPGWg
import Derived.Laws.BytesArg
import Derived.PlainAid
import Derived.Deep.QuietTactic
import Derived.BigQuiet
import Derived.Lib.ParseIntB
import Derived.Lib.TrimByte
import Derived.Lib.Strings
import Derived.Test.YtlhfemgimieooaaGreatDoorShelf2
import Derived.Lib.SmallJoins
import Derived.Test.YtlhfemgimieooaaGreatDoorPGWd
import Derived.Lib.AppendIntMem
import Derived.Lib.ItoaLen
set_option linter.unusedVariables false
set_option linter.unusedSimpArgs false
set_option maxRecDepth 100000
set_option maxHeartbeats 4000000
namespace Go.Proofs.YtlhfemgimieooaaGreatDoor
open Go.Lib (hid)
section
open Go Go.ChangeShapes Go.WideShapes Go.ChangeAt Go.RowKit
def showN (neg : Bool) (ds : List Int) : List Int := (if neg then [45] else []) ++ ds.reverse.map fun d => 48 + d
def showB (neg : Bool) (ds : List Int) : ByteArray := if ds.length = 0 then ⟨#[48]⟩ else strOfNums (showN neg ds)
def showTo (neg : Bool) (ds : List Int) (m : Nat) : List Int := (if neg then [45] else []) ++ (ds.drop m).reverse.map fun d => 48 + d
theorem showTo_step (neg : Bool) (ds : List Int) (k : Nat) (h : k < ds.length) : showTo neg ds k = showTo neg ds (k + 1) ++ [48 + ds.getD k 0] := by
 unfold showTo
 rw [List.drop_eq_getElem_cons h, List.reverse_cons, List.map_append, List.getD_eq_getElem?_getD, List.getElem?_eq_getElem h, List.append_assoc]
 rfl
theorem showTo_len (neg : Bool) (ds : List Int) (m : Nat) : (showTo neg ds m).length ≤ 1 + (ds.length - m) := by
 unfold showTo
 cases neg <;> simp <;> omega
theorem showTo_pos (neg : Bool) (ds : List Int) (h : 0 < ds.length) : (showTo neg ds 0).length ≠ 0 := by
 have e : (showTo neg ds 0).length = (if neg then 1 else 0) + ds.length := by
   unfold showTo
   cases neg
   · simp
   · simp [Nat.add_comm]
 rw [e]
 omega
theorem showTo_all (neg : Bool) (ds : List Int) : showTo neg ds ds.length = if neg then [45] else [] := by
 unfold showTo; simp
theorem own_formS {w : World} {B : Nat} {T : TypeId} {v : Value} {ws : List Int} {k : IntKind} (h : OW k T w B v ws) : ∃ p c, v = .slice p ws.length c := by
 rcases h.2 with ⟨rfl, h2⟩ | ⟨g, c, cur, rfl, _⟩
 · exact ⟨none, 0, by rw [h2]⟩
 · exact ⟨_, c, rfl⟩
theorem alloc_size (w : World) (o : Obj) : (w.alloc o).heap.size = w.heap.size + 1 := by simp
theorem show_any (neg : Bool) (u : Value) (ds : List Int) (w : World) (hr : Rb w u ds) (hd : Dig 10 ds) (hl : ds.length ≤ 1000) :
   Calls Tryz.prog 124 #[.agg #[.bool neg, u]] w (fun e w' => e = .returned (.string (showB neg ds)) ∧ Below w.heap.size w w') := by
 obtain ⟨i0, hi, hz0, hz1, hz2⟩ := info_parts infoU8
 obtain ⟨p1, c1, rfl, _, _, hp1⟩ := rb_form hr
 have HP1 := hid hp1
 have HD := hid hd
 clear hr hd hp1
 by_cases h0 : ds.length = 0
 · have hz : ((ds.length : Int) == 0) = true := by simp [h0]
   have hs : showB neg ds = ⟨#[48]⟩ := if_pos h0
   go_enter Tryz.func124, Tryz.ntmps124
   go_wp2_with fail
   go_ret
   exact ⟨by rw [hs]; rfl, (Below.refl _ _).alloc (Nat.le_refl _) _⟩
 · have hz : ((ds.length : Int) == 0) = false := by rw [beq_eq_false_iff_ne]; omega
   have hs : showB neg ds = strOfNums (showTo neg ds 0) := by unfold showB showTo showN; rw [if_neg h0, List.drop_zero]
   have HS := hid hs
   have HB0 := hid (show Below w.heap.size w (w.alloc (.cells #[.bool neg, .slice p1 ds.length c1] 45)) from (Below.refl _ _).alloc (Nat.le_refl _) _)
   have HX0 := hid (show Box2 (w.alloc (.cells #[.bool neg, .slice p1 ds.length c1] 45)) w.heap.size (.bool neg) (.slice p1 ds.length c1) from Box2.new _ _ _ _ rfl)
   clear hs
   go_enter Tryz.func124, Tryz.ntmps124
   cases neg with
   | true =>
     go_wp2_with (at_builtin; refine wpList_app rfl (.tmp 11) (.tmp 12) rfl Tryz.underlying43 infoU8 rfl rfl (v := .slice none 0 0) (base := w.heap.size + 1) (n := 0) (m := 1) (xs := []) (news := [.int .u8 45]) (World.ownsRow_nil _ _ _ _) rfl (by exact src_top (by first | rfl | (simp; done))) (by simp [Value.oneCell']) (by unfold maxLen; omega) (by omega) (by simp <;> omega) ?_; intro v3 w3 hap; have HO3 := hid (show OB w3 (w.heap.size + 1) v3 (showTo true ds ds.length) from (by rw [showTo_all]; exact (show OW .u8 5 w3 (w.heap.size + 1) v3 [45] from by have := hap.own; unfold OW; simpa using this))); have HB3 := hid (show Below (w.heap.size + 1) (w.alloc (.cells #[.bool true, .slice p1 ds.length c1] 45)) w3 from ((Below.refl _ _).alloc (by simp) _).trans (hap.below (by simp <;> omega) (fun g hg => by cases hg))); have x3 := (World.cell?_of_block (a := ⟨w.heap.size, 1, none⟩) (HB3.out.block w.heap.size (by simp))).trans HX0.out.c1; obtain ⟨pv3, cv3, rfl⟩ := own_formS HO3.out; clear hap)
     go_loopw [3, 4] (fun v iv wr => ∃ (m : Nat) (i : Int), iv = .int .i64 i ∧ i + 1 = m ∧ m ≤ ds.length ∧ OB wr (w.heap.size + 1) v (showTo true ds m) ∧ Below (w.heap.size + 1) (w.alloc (.cells #[.bool true, .slice p1 ds.length c1] 45)) wr) (fun _ iv _ => (intOf iv + 1).toNat)
     case atStart => exact ⟨ds.length, (ds.length : Int) - 1, by go_num, by omega, Nat.le_refl _, HO3.out, HB3.out⟩
     case round =>
       obtain ⟨m, i, rfl, hi', hm, hO, hB⟩ := hrel
       have HO := hid hO
       have HB := hid hB
       have hsz := hB.size
       simp only [alloc_size] at hsz
       have hlen := showTo_len true ds m
       have x1 := (World.cell?_of_block (a := ⟨w.heap.size, 1, none⟩) (hB.block w.heap.size (by simp))).trans HX0.out.c1
       clear hO hB
       obtain ⟨pv, cv, rfl⟩ := own_formS HO.out
       rcases m with _ | k
       · obtain rfl : i = -1 := by omega
         have HZ := HO.out
         rcases HZ.2 with ⟨_, h2⟩ | ⟨g, cap, cur, he, hg, r1, r2, r3, r4, r5⟩
         · exact absurd h2 (showTo_pos _ ds (by omega))
         · simp only [Value.slice.injEq] at he
           obtain ⟨rfl, _, rfl⟩ := he
           have hcv := run_convert_bytes_arg (P := Tryz.prog) (w := wr) 43 5 Tryz.underlying43 Tryz.underlying5 g 0 (showTo true ds 0).length cv (showTo true ds 0) rfl (fun i hi => by
             have := (OW.rb (T := 5) HO.out (by omega))
             rcases this with ⟨p, e, e2⟩ | ⟨b2, o2, c2, e, _, _, h⟩
             · rw [e2] at hi; simp at hi
             · simp only [Value.slice.injEq, Option.some.injEq, Addr.mk.injEq, and_true] at e
               obtain ⟨⟨rfl, rfl⟩, _, rfl⟩ := e
               exact h i hi) 9 Tryz.underlying9
           rw [← HS.out] at hcv
           clear HZ
           go_wp2_with fail
           go_ret
           exact ⟨rfl, HB0.out.trans (HB.out.mono (by omega))⟩
       · obtain rfl : i = (k : Int) := by omega
         obtain ⟨b1, o1, rfl, hxx⟩ := HP1.out (by omega)
         have hcx := (World.cell?_of_block (a := ⟨b1, o1 + k, none⟩) (HB.out.block b1 (by have := World.block_lt_of_cell? _ _ (hxx k (by omega)); simp at this ⊢; omega))).trans (bcl HB0.out (hxx k (by omega)))
         have hdk := HD.out k
         have HST := hid (showTo_step true ds k (by omega))
         clear hxx
         generalize ds.getD k 0 = d at hcx hdk HST
         have hw8 : IntKind.u8.wrap (48 + d) = 48 + d := by simp [IntKind.wrap, IntKind.signed, IntKind.bits]; omega
         go_wp2_with (at_builtin; refine wpList_app rfl (.tmp 22) (.tmp 29) rfl Tryz.underlying43 infoU8 rfl rfl (v := .slice pv (showTo true ds (k + 1)).length cv) (base := w.heap.size + 1) (n := (showTo true ds (k + 1)).length) (m := 1) (xs := (showTo true ds (k + 1)).map (Value.int .u8)) (news := [.int .u8 (48 + d)]) (World.ownsRow.alloc HO.out _) rfl (by exact src_top (by first | rfl | (simp; done))) (by simp [Value.oneCell']) (by unfold maxLen; omega) (by omega) (by simp <;> omega) ?_; intro v4 w4 hap; have HO4 := hid (show OB w4 (w.heap.size + 1) v4 (showTo true ds k) from (by rw [HST.out]; exact OW.snoc hap.own)); have HB4 := hid ((HB.out.alloc (by omega) _).trans (hap.below (by simp <;> omega) (fun g hg => (World.ownsRow.lt HO.out g hg).1))); clear hap)
         go_roundw
         case rel => exact ⟨k, (k : Int) - 1, by go_num, by omega, by omega, HO4.out, HB4.out⟩
         case measure => simp [intOf] <;> omega
   | false =>
     have HO3 := hid (show OB (w.alloc (.cells #[.bool false, .slice p1 ds.length c1] 45)) (w.heap.size + 1) (.slice none 0 0) (showTo false ds ds.length) by rw [showTo_all]; exact OW.nil _ _)
     have HB3 := hid (show Below (w.heap.size + 1) (w.alloc (.cells #[.bool false, .slice p1 ds.length c1] 45)) (w.alloc (.cells #[.bool false, .slice p1 ds.length c1] 45)) from Below.refl _ _)
     go_wp2_with fail
     go_loopw [3, 4] (fun v iv wr => ∃ (m : Nat) (i : Int), iv = .int .i64 i ∧ i + 1 = m ∧ m ≤ ds.length ∧ OB wr (w.heap.size + 1) v (showTo false ds m) ∧ Below (w.heap.size + 1) (w.alloc (.cells #[.bool false, .slice p1 ds.length c1] 45)) wr) (fun _ iv _ => (intOf iv + 1).toNat)
     case atStart => exact ⟨ds.length, (ds.length : Int) - 1, by go_num, by omega, Nat.le_refl _, HO3.out, HB3.out⟩
     case round =>
       obtain ⟨m, i, rfl, hi', hm, hO, hB⟩ := hrel
       have HO := hid hO
       have HB := hid hB
       have hsz := hB.size
       simp only [alloc_size] at hsz
       have hlen := showTo_len false ds m
       have x1 := (World.cell?_of_block (a := ⟨w.heap.size, 1, none⟩) (hB.block w.heap.size (by simp))).trans HX0.out.c1
       clear hO hB
       obtain ⟨pv, cv, rfl⟩ := own_formS HO.out
       rcases m with _ | k
       · obtain rfl : i = -1 := by omega
         have HZ := HO.out
         rcases HZ.2 with ⟨_, h2⟩ | ⟨g, cap, cur, he, hg, r1, r2, r3, r4, r5⟩
         · exact absurd h2 (showTo_pos _ ds (by omega))
         · simp only [Value.slice.injEq] at he
           obtain ⟨rfl, _, rfl⟩ := he
           have hcv := run_convert_bytes_arg (P := Tryz.prog) (w := wr) 43 5 Tryz.underlying43 Tryz.underlying5 g 0 (showTo false ds 0).length cv (showTo false ds 0) rfl (fun i hi => by
             have := (OW.rb (T := 5) HO.out (by omega))
             rcases this with ⟨p, e, e2⟩ | ⟨b2, o2, c2, e, _, _, h⟩
             · rw [e2] at hi; simp at hi
             · simp only [Value.slice.injEq, Option.some.injEq, Addr.mk.injEq, and_true] at e
               obtain ⟨⟨rfl, rfl⟩, _, rfl⟩ := e
               exact h i hi) 9 Tryz.underlying9
           rw [← HS.out] at hcv
           clear HZ
           go_wp2_with fail
           go_ret
           exact ⟨rfl, HB0.out.trans (HB.out.mono (by omega))⟩
       · obtain rfl : i = (k : Int) := by omega
         obtain ⟨b1, o1, rfl, hxx⟩ := HP1.out (by omega)
         have hcx := (World.cell?_of_block (a := ⟨b1, o1 + k, none⟩) (HB.out.block b1 (by have := World.block_lt_of_cell? _ _ (hxx k (by omega)); simp at this ⊢; omega))).trans (bcl HB0.out (hxx k (by omega)))
         have hdk := HD.out k
         have HST := hid (showTo_step false ds k (by omega))
         clear hxx
         generalize ds.getD k 0 = d at hcx hdk HST
         have hw8 : IntKind.u8.wrap (48 + d) = 48 + d := by simp [IntKind.wrap, IntKind.signed, IntKind.bits]; omega
         go_wp2_with (at_builtin; refine wpList_app rfl (.tmp 22) (.tmp 29) rfl Tryz.underlying43 infoU8 rfl rfl (v := .slice pv (showTo false ds (k + 1)).length cv) (base := w.heap.size + 1) (n := (showTo false ds (k + 1)).length) (m := 1) (xs := (showTo false ds (k + 1)).map (Value.int .u8)) (news := [.int .u8 (48 + d)]) (World.ownsRow.alloc HO.out _) rfl (by exact src_top (by first | rfl | (simp; done))) (by simp [Value.oneCell']) (by unfold maxLen; omega) (by omega) (by simp <;> omega) ?_; intro v4 w4 hap; have HO4 := hid (show OB w4 (w.heap.size + 1) v4 (showTo false ds k) from (by rw [HST.out]; exact OW.snoc hap.own)); have HB4 := hid ((HB.out.alloc (by omega) _).trans (hap.below (by simp <;> omega) (fun g hg => (World.ownsRow.lt HO.out g hg).1))); clear hap)
         go_roundw
         case rel => exact ⟨k, (k : Int) - 1, by go_num, by omega, by omega, HO4.out, HB4.out⟩
         case measure => simp [intOf] <;> omega
end
section
open Go Go.ChangeShapes Go.WideShapes Go.ChangeAt Go.RowKit Go.PlainAid
def rdN (s : ByteArray) (m : Nat) : List Int := (List.range (s.size - m)).map fun j => bt s (s.size - 1 - j) - 48
theorem rdN_len (s : ByteArray) (m : Nat) : (rdN s m).length = s.size - m := by simp [rdN]
theorem rdN_end (s : ByteArray) : rdN s s.size = [] := by simp [rdN]
theorem rdN_step (s : ByteArray) (k : Nat) (h : k < s.size) : rdN s k = rdN s (k + 1) ++ [bt s k - 48] := by
 unfold rdN
 rw [show s.size - k = (s.size - (k + 1)) + 1 by omega, List.range_succ, List.map_append]
 simp only [List.map_cons, List.map_nil]
 rw [show s.size - 1 - (s.size - (k + 1)) = k by omega]
def DigsFrom (s : ByteArray) (m : Nat) : Prop := ∀ k, m ≤ k → k < s.size → 48 ≤ bt s k ∧ bt s k ≤ 57
theorem rdN_dig {s : ByteArray} {m : Nat} (h : DigsFrom s m) : Dig 10 (rdN s m) := fun i => by
 unfold rdN
 rw [List.getD_eq_getElem?_getD, List.getElem?_map]
 by_cases hi : i < s.size - m
 · rw [List.getElem?_range hi]
   have := h (s.size - 1 - i) (by omega) (by omega)
   simp only [Option.map_some, Option.getD_some]
   omega
 · rw [List.getElem?_eq_none (by simpa using hi)]; simp
theorem DigsFrom.step {s : ByteArray} {k : Nat} (h : DigsFrom s (k + 1)) (h0 : 48 ≤ bt s k) (h1 : bt s k ≤ 57) : DigsFrom s k := fun j hj hl => by
 by_cases e : j = k
 · subst e; exact ⟨h0, h1⟩
 · exact h j (by omega) hl
def negT (s : ByteArray) : Bool := decide (0 < s.size) && bt s 0 == 45
def fromT (s : ByteArray) : Nat := if negT s then 1 else 0
def OkT (s : ByteArray) : Prop := fromT s < s.size ∧ DigsFrom s (fromT s)
def numT (s : ByteArray) : Int := sg (negT s) (val 10 (rdN s (fromT s)))
def TQ (b : Int) (s : ByteArray) (neg : Bool) (ds : List Int) (f : Int) : Prop :=
 (¬ OkT s ∧ neg = false ∧ ds = [] ∧ f = 4) ∨ (OkT s ∧ ¬ Small (numT s) ∧ neg = false ∧ ds = [] ∧ f = 2) ∨ (OkT s ∧ Small (numT s) ∧ f = 0 ∧ Sgn b neg ds (numT s))
def ReadPost (W : World) (s : ByteArray) (e : Ending) (w' : World) : Prop :=
 ∃ neg u ds f, e = .returned (.tuple #[.agg #[.bool neg, u], .int .i64 f]) ∧ Rb w' u ds ∧ TQ 10 s neg ds f ∧ Below W.heap.size W w'
theorem sgn_cut {neg : Bool} {ds : List Int} {k : Nat} (hk : CutAt ds k) (hd : Dig 10 ds) : Sgn 10 (neg && decide (0 < k)) (ds.take k) (sg neg (val 10 ds)) := by
 obtain ⟨h1, h2, h3⟩ := hk.canon (b := 10) (by decide) hd
 refine ⟨h1, fun e => ?_, ?_⟩
 · rw [h3]
   simp at e
   exact e.2
 · by_cases h0 : 0 < k
   · rw [decide_eq_true h0, Bool.and_true, h2]
   · obtain rfl : k = 0 := by omega
     rw [List.take_zero] at h2
     rw [← h2]
     cases neg <;> rfl
theorem ReadPost.bad {w w' : World} {s : ByteArray} (h : ¬ OkT s) (hb : Below w.heap.size w w') : ReadPost w s (.returned (.tuple #[.agg #[.bool false, .slice none 0 0], .int .i64 4])) w' :=
 ⟨false, _, [], 4, rfl, .inl ⟨none, rfl, rfl⟩, .inl ⟨h, rfl, rfl, rfl⟩, hb⟩
theorem read_empty (s : ByteArray) (w : World) (hsz : s.size ≤ 140737488355328) (h0 : s.size = 0) :
   Calls Tryz.prog 43 #[.string s] w (ReadPost w s) := by
 have hb := get_bt s
 have hok : ¬ OkT s := fun h => by have := h.1; omega
 have HOK := hid hok
 have hz : ¬ ((s.size : Int) > 0) := by omega
 have hzd : decide ((s.size : Int) > 0) = false := by simp [h0]
 clear hok
 go_enter Tryz.func43, Tryz.ntmps43
 go_wp2_with fail
 refine bodyPost_ret (v := .tuple #[.agg #[.bool false, .slice none 0 0], .int .i64 4]) (by simp [results, Tryz.results43, go_sem]) rfl (ReadPost.bad HOK.out ?_)
 exact (Below.refl _ _).alloc (Nat.le_refl _) _
theorem read_neg (s : ByteArray) (w : World) (hsz : s.size ≤ 140737488355328) (h0 : 0 < s.size) (h45 : bt s 0 = 45) :
   Calls Tryz.prog 43 #[.string s] w (ReadPost w s) := by
 have hb := get_bt s
 have hneg : negT s = true := by unfold negT; simp [h0, h45]
 have h0z : (s.size : Int) > 0 := by omega
 have h0i : (0 : Int) < (s.size : Int) := by omega
 have hfr : fromT s = 1 := by unfold fromT; rw [hneg]; rfl
 by_cases hs1 : s.size = 1
 · have hok : ¬ OkT s := fun h => by have := h.1; rw [hfr] at this; omega
   have HOK := hid hok
   clear hok hneg hfr
   have hsz1 : (s.size : Int) = 1 := by omega
   go_enter Tryz.func43, Tryz.ntmps43
   go_wp2_with fail
   refine bodyPost_ret (v := .tuple #[.agg #[.bool false, .slice none 0 0], .int .i64 4]) (by simp [results, Tryz.results43, go_sem]) rfl (ReadPost.bad HOK.out ?_)
   exact (Below.refl _ _).alloc (Nat.le_refl _) _
 · have HNEG := hid hneg
   have HFR := hid hfr
   have HNT := hid (show numT s = sg true (val 10 (rdN s 1)) by unfold numT; rw [hneg, hfr])
   clear hneg hfr
   have hne : (((1 : Int)) == (s.size : Int)) = false := by rw [beq_eq_false_iff_ne]; omega
   have HB0 := hid (show Below w.heap.size w (w.alloc (.cells #[.bool false, .slice none 0 0] 45)) from (Below.refl _ _).alloc (Nat.le_refl _) _)
   have HX0 := hid (show Box2 (w.alloc (.cells #[.bool false, .slice none 0 0] 45)) w.heap.size (.bool false) (.slice none 0 0) from Box2.new _ _ _ _ rfl)
   go_enter Tryz.func43, Tryz.ntmps43
   go_wp2_with fail
   go_loopw [6, 7] (fun v iv wr => ∃ (m : Nat) (i : Int), iv = .int .i64 i ∧ i + 1 = m ∧ 1 ≤ m ∧ m ≤ s.size ∧ DigsFrom s m ∧ OB wr (w.heap.size + 1) v (rdN s m) ∧ Below (w.heap.size + 1) (w.alloc (.cells #[.bool false, .slice none 0 0] 45)) wr) (fun _ iv _ => (intOf iv + 1).toNat)
   case atStart => exact ⟨s.size, (s.size : Int) - 1, by go_num, by omega, by omega, Nat.le_refl _, fun k h1 h2 => by omega, by rw [rdN_end]; exact OW.nil _ _, Below.refl _ _⟩
   case round =>
     obtain ⟨m, i, rfl, hi', hm1, hm2, hD, hO, hB⟩ := hrel
     have HD := hid hD
     have HO := hid hO
     have HB := hid hB
     have hsz' := hB.size
     simp only [alloc_size] at hsz'
     have e0 := hB.block w.heap.size (by simp)
     have x0 := (World.cell?_of_block (a := ⟨w.heap.size, 0, none⟩) e0).trans HX0.out.c0
     have x1 := (World.cell?_of_block (a := ⟨w.heap.size, 1, none⟩) e0).trans HX0.out.c1
     have f0 := (World.frozen?_of_block (a := ⟨w.heap.size, 0, none⟩) e0).trans HX0.out.f0
     have f1 := (World.frozen?_of_block (a := ⟨w.heap.size, 1, none⟩) e0).trans HX0.out.f1
     clear hD hO hB e0
     obtain ⟨pv, cv, rfl⟩ := own_formS HO.out
     by_cases hmf : m = 1
     · subst hmf
       have hig : ¬ (i ≥ (1 : Int)) := by omega
       obtain rfl : i = 1 - 1 := by omega
       have HRB := hid (OW.rb HO.out (by rw [rdN_len]; omega))
       have HMI := hid (OW.mine HO.out)
       have HOK := hid (show OkT s from ⟨by rw [HFR.out]; omega, by rw [HFR.out]; exact HD.out⟩)
       go_wp2_with fail
       refine (cut_any pv cv (rdN s 1) wr HRB.out).mono ?_
       rintro e w5 ⟨kk, hkk, rfl, rfl⟩
       have HKK := hid hkk
       have hkl := hkk.1
       have HSG := hid (show Sgn 10 (true && decide (0 < kk)) ((rdN s 1).take kk) (numT s) by rw [HNT.out]; exact sgn_cut hkk (rdN_dig HD.out))
       have hlt : ((rdN s 1).take kk).length = kk := by rw [List.length_take]; omega
       have hsm := HSG.out.fits
       rw [hlt] at hsm
       clear hkk
       by_cases hk5 : kk ≤ 540
       · have hkz : ¬ ((kk : Int) > 540) := by omega
         by_cases hk0 : kk = 0
         · subst hk0
           have hkg : decide ((0 : Int) > 0) = false := by decide
           have hki : ¬ ((0 : Int) > 0) := by omega
           go_wp2_with fail
           have zz := two_setW (x0 := .bool false) (x1 := .slice pv 0 cv) x0 x1
           refine bodyPost_ret (v := .tuple #[.agg #[.bool false, .slice pv 0 cv], .int .i64 0]) (by simp [results, Tryz.results43, go_sem, zz.1, zz.2]) rfl ⟨false, _, (rdN s 1).take 0, 0, rfl, ((HMI.out.cut hkl).set2 (by omega) _ _).rb (by rw [hlt]; omega), .inr (.inr ⟨HOK.out, hsm.1 hk5, rfl, by have h := HSG.out; rw [show decide (0 < 0) = false from rfl, Bool.and_false] at h; exact h⟩), ?_⟩
           exact ((HB0.out.trans (HB.out.mono (by omega))).setCell (by simp) _).setCell (by simp) _
         · have hkg : (kk : Int) > 0 := by omega
           have hkh : decide (0 < kk) = true := by simp; omega
           have hki : 0 < kk := by omega
           go_wp2_with fail
           have zz := two_setW (x0 := .bool true) (x1 := .slice pv kk cv) x0 x1
           refine bodyPost_ret (v := .tuple #[.agg #[.bool true, .slice pv kk cv], .int .i64 0]) (by simp [results, Tryz.results43, go_sem, zz.1, zz.2]) rfl ⟨true, _, (rdN s 1).take kk, 0, rfl, ((HMI.out.cut hkl).set2 (by omega) _ _).rb (by rw [hlt]; omega), .inr (.inr ⟨HOK.out, hsm.1 hk5, rfl, by have h := HSG.out; rw [hkh, Bool.and_true] at h; exact h⟩), ?_⟩
           exact ((HB0.out.trans (HB.out.mono (by omega))).setCell (by simp) _).setCell (by simp) _
       · have hkz : (kk : Int) > 540 := by omega
         go_wp2_with fail
         have zz := two_setW (x0 := .bool false) (x1 := .slice none 0 0) x0 x1
         refine bodyPost_ret (v := .tuple #[.agg #[.bool false, .slice none 0 0], .int .i64 2]) (by simp [results, Tryz.results43, go_sem, zz.1, zz.2]) rfl ⟨false, _, [], 2, rfl, .inl ⟨none, rfl, rfl⟩, .inr (.inl ⟨HOK.out, fun h => hk5 (hsm.2 h), rfl, rfl, rfl⟩), ?_⟩
         exact ((HB0.out.trans (HB.out.mono (by omega))).setCell (by simp) _).setCell (by simp) _
     · obtain ⟨k, rfl⟩ : ∃ k, m = k + 1 := ⟨m - 1, by omega⟩
       obtain rfl : i = (k : Int) := by omega
       have hig : (k : Int) ≥ 1 := by omega
       have hks : (k : Int) < (s.size : Int) := by omega
       have hbn := bt_nonneg s k
       by_cases hb0 : bt s k < 48
       · have HOK := hid (show ¬ OkT s from fun h => by have := h.2 k (by rw [HFR.out]; omega) (by omega); omega)
         go_wp2_with fail
         have zz := two_setW (x0 := .bool false) (x1 := .slice none 0 0) x0 x1
         refine bodyPost_ret (v := .tuple #[.agg #[.bool false, .slice none 0 0], .int .i64 4]) (by simp [results, Tryz.results43, go_sem, zz.1, zz.2]) rfl (ReadPost.bad HOK.out ?_)
         exact ((HB0.out.trans (HB.out.mono (by omega))).setCell (by simp) _).setCell (by simp) _
       · by_cases hb9 : bt s k > 57
         · have HOK := hid (show ¬ OkT s from fun h => by have := h.2 k (by rw [HFR.out]; omega) (by omega); omega)
           have hb0d : decide (bt s k < 48) = false := by simp; omega
           go_wp2_with fail
           have zz := two_setW (x0 := .bool false) (x1 := .slice none 0 0) x0 x1
           refine bodyPost_ret (v := .tuple #[.agg #[.bool false, .slice none 0 0], .int .i64 4]) (by simp [results, Tryz.results43, go_sem, zz.1, zz.2]) rfl (ReadPost.bad HOK.out ?_)
           exact ((HB0.out.trans (HB.out.mono (by omega))).setCell (by simp) _).setCell (by simp) _
         · have hb0d : decide (bt s k < 48) = false := by simp; omega
           have hb9d : decide (bt s k > 57) = false := by simp; omega
           have hw8 : IntKind.u8.wrap (bt s k - 48) = bt s k - 48 := by simp [IntKind.wrap, IntKind.signed, IntKind.bits]; omega
           have HD2 := hid (HD.out.step (by omega) (by omega))
           have HST := hid (rdN_step s k (by omega))
           have hb9e : decide (57 < bt s k) = false := by simp; omega
           go_wp2_with (at_builtin; refine wpList_app rfl (.tmp 40) (.tmp 45) rfl Tryz.underlying43 infoU8 rfl rfl (v := .slice pv (rdN s (k + 1)).length cv) (base := w.heap.size + 1) (n := (rdN s (k + 1)).length) (m := 1) (xs := (rdN s (k + 1)).map (Value.int .u8)) (news := [.int .u8 (bt s k - 48)]) (World.ownsRow.alloc HO.out _) rfl (by exact src_top (by first | rfl | (simp; done))) (by simp [Value.oneCell']) (by have := rdN_len s (k + 1); unfold maxLen; omega) (by have := rdN_len s (k + 1); omega) (by simp <;> omega) ?_; intro v4 w4 hap; have HO4 := hid (show OB w4 (w.heap.size + 1) v4 (rdN s k) from (by rw [HST.out]; exact OW.snoc hap.own)); have HB4 := hid ((HB.out.alloc (by omega) _).trans (hap.below (by simp <;> omega) (fun g hg => (World.ownsRow.lt HO.out g hg).1))); clear hap)
           go_roundw
           case rel => exact ⟨k, (k : Int) - 1, by go_num, by omega, by omega, by omega, HD2.out, HO4.out, HB4.out⟩
           case measure => simp [intOf] <;> omega
theorem read_pos (s : ByteArray) (w : World) (hsz : s.size ≤ 140737488355328) (h0 : 0 < s.size) (h45 : bt s 0 ≠ 45) :
   Calls Tryz.prog 43 #[.string s] w (ReadPost w s) := by
 have hb := get_bt s
 have hneg : negT s = false := by unfold negT; simp [h45]
 have h0z : (s.size : Int) > 0 := by omega
 have h0i : (0 : Int) < (s.size : Int) := by omega
 have h45b : (bt s 0 == 45) = false := by simpa using h45
 have hfr : fromT s = 0 := by unfold fromT; rw [hneg]; rfl
 by_cases hs1 : s.size = 0
 · exact absurd hs1 (by omega)
 · have HNEG := hid hneg
   have HFR := hid hfr
   have HNT := hid (show numT s = sg false (val 10 (rdN s 0)) by unfold numT; rw [hneg, hfr])
   clear hneg hfr
   have hne : (((0 : Int)) == (s.size : Int)) = false := by rw [beq_eq_false_iff_ne]; omega
   have HB0 := hid (show Below w.heap.size w (w.alloc (.cells #[.bool false, .slice none 0 0] 45)) from (Below.refl _ _).alloc (Nat.le_refl _) _)
   have HX0 := hid (show Box2 (w.alloc (.cells #[.bool false, .slice none 0 0] 45)) w.heap.size (.bool false) (.slice none 0 0) from Box2.new _ _ _ _ rfl)
   go_enter Tryz.func43, Tryz.ntmps43
   go_wp2_with fail
   go_loopw [6, 7] (fun v iv wr => ∃ (m : Nat) (i : Int), iv = .int .i64 i ∧ i + 1 = m ∧ 0 ≤ m ∧ m ≤ s.size ∧ DigsFrom s m ∧ OB wr (w.heap.size + 1) v (rdN s m) ∧ Below (w.heap.size + 1) (w.alloc (.cells #[.bool false, .slice none 0 0] 45)) wr) (fun _ iv _ => (intOf iv + 1).toNat)
   case atStart => exact ⟨s.size, (s.size : Int) - 1, by go_num, by omega, by omega, Nat.le_refl _, fun k h1 h2 => by omega, by rw [rdN_end]; exact OW.nil _ _, Below.refl _ _⟩
   case round =>
     obtain ⟨m, i, rfl, hi', hm1, hm2, hD, hO, hB⟩ := hrel
     have HD := hid hD
     have HO := hid hO
     have HB := hid hB
     have hsz' := hB.size
     simp only [alloc_size] at hsz'
     have e0 := hB.block w.heap.size (by simp)
     have x0 := (World.cell?_of_block (a := ⟨w.heap.size, 0, none⟩) e0).trans HX0.out.c0
     have x1 := (World.cell?_of_block (a := ⟨w.heap.size, 1, none⟩) e0).trans HX0.out.c1
     have f0 := (World.frozen?_of_block (a := ⟨w.heap.size, 0, none⟩) e0).trans HX0.out.f0
     have f1 := (World.frozen?_of_block (a := ⟨w.heap.size, 1, none⟩) e0).trans HX0.out.f1
     clear hD hO hB e0
     obtain ⟨pv, cv, rfl⟩ := own_formS HO.out
     by_cases hmf : m = 0
     · subst hmf
       have hig : ¬ (i ≥ (0 : Int)) := by omega
       obtain rfl : i = 0 - 1 := by omega
       have HRB := hid (OW.rb HO.out (by rw [rdN_len]; omega))
       have HMI := hid (OW.mine HO.out)
       have HOK := hid (show OkT s from ⟨by rw [HFR.out]; omega, by rw [HFR.out]; exact HD.out⟩)
       go_wp2_with fail
       refine (cut_any pv cv (rdN s 0) wr HRB.out).mono ?_
       rintro e w5 ⟨kk, hkk, rfl, rfl⟩
       have HKK := hid hkk
       have hkl := hkk.1
       have HSG := hid (show Sgn 10 (false && decide (0 < kk)) ((rdN s 0).take kk) (numT s) by rw [HNT.out]; exact sgn_cut hkk (rdN_dig HD.out))
       have hlt : ((rdN s 0).take kk).length = kk := by rw [List.length_take]; omega
       have hsm := HSG.out.fits
       rw [hlt] at hsm
       clear hkk
       by_cases hk5 : kk ≤ 540
       · have hkz : ¬ ((kk : Int) > 540) := by omega
         by_cases hk0 : kk = 0
         · subst hk0
           have hkg : decide ((0 : Int) > 0) = false := by decide
           have hki : ¬ ((0 : Int) > 0) := by omega
           go_wp2_with fail
           have zz := two_setW (x0 := .bool false) (x1 := .slice pv 0 cv) x0 x1
           refine bodyPost_ret (v := .tuple #[.agg #[.bool false, .slice pv 0 cv], .int .i64 0]) (by simp [results, Tryz.results43, go_sem, zz.1, zz.2]) rfl ⟨false, _, (rdN s 0).take 0, 0, rfl, ((HMI.out.cut hkl).set2 (by omega) _ _).rb (by rw [hlt]; omega), .inr (.inr ⟨HOK.out, hsm.1 hk5, rfl, by have h := HSG.out; rw [show decide (0 < 0) = false from rfl, Bool.and_false] at h; exact h⟩), ?_⟩
           exact ((HB0.out.trans (HB.out.mono (by omega))).setCell (by simp) _).setCell (by simp) _
         · have hkg : (kk : Int) > 0 := by omega
           have hkh : decide (0 < kk) = true := by simp; omega
           have hki : 0 < kk := by omega
           go_wp2_with fail
           have zz := two_setW (x0 := .bool false) (x1 := .slice pv kk cv) x0 x1
           refine bodyPost_ret (v := .tuple #[.agg #[.bool false, .slice pv kk cv], .int .i64 0]) (by simp [results, Tryz.results43, go_sem, zz.1, zz.2]) rfl ⟨false, _, (rdN s 0).take kk, 0, rfl, ((HMI.out.cut hkl).set2 (by omega) _ _).rb (by rw [hlt]; omega), .inr (.inr ⟨HOK.out, hsm.1 hk5, rfl, by have h := HSG.out; rw [hkh, Bool.and_true] at h; exact h⟩), ?_⟩
           exact ((HB0.out.trans (HB.out.mono (by omega))).setCell (by simp) _).setCell (by simp) _
       · have hkz : (kk : Int) > 540 := by omega
         go_wp2_with fail
         have zz := two_setW (x0 := .bool false) (x1 := .slice none 0 0) x0 x1
         refine bodyPost_ret (v := .tuple #[.agg #[.bool false, .slice none 0 0], .int .i64 2]) (by simp [results, Tryz.results43, go_sem, zz.1, zz.2]) rfl ⟨false, _, [], 2, rfl, .inl ⟨none, rfl, rfl⟩, .inr (.inl ⟨HOK.out, fun h => hk5 (hsm.2 h), rfl, rfl, rfl⟩), ?_⟩
         exact ((HB0.out.trans (HB.out.mono (by omega))).setCell (by simp) _).setCell (by simp) _
     · obtain ⟨k, rfl⟩ : ∃ k, m = k + 1 := ⟨m - 1, by omega⟩
       obtain rfl : i = (k : Int) := by omega
       have hig : (k : Int) ≥ 0 := by omega
       have hks : (k : Int) < (s.size : Int) := by omega
       have hbn := bt_nonneg s k
       by_cases hb0 : bt s k < 48
       · have HOK := hid (show ¬ OkT s from fun h => by have := h.2 k (by rw [HFR.out]; omega) (by omega); omega)
         go_wp2_with fail
         have zz := two_setW (x0 := .bool false) (x1 := .slice none 0 0) x0 x1
         refine bodyPost_ret (v := .tuple #[.agg #[.bool false, .slice none 0 0], .int .i64 4]) (by simp [results, Tryz.results43, go_sem, zz.1, zz.2]) rfl (ReadPost.bad HOK.out ?_)
         exact ((HB0.out.trans (HB.out.mono (by omega))).setCell (by simp) _).setCell (by simp) _
       · by_cases hb9 : bt s k > 57
         · have HOK := hid (show ¬ OkT s from fun h => by have := h.2 k (by rw [HFR.out]; omega) (by omega); omega)
           have hb0d : decide (bt s k < 48) = false := by simp; omega
           go_wp2_with fail
           have zz := two_setW (x0 := .bool false) (x1 := .slice none 0 0) x0 x1
           refine bodyPost_ret (v := .tuple #[.agg #[.bool false, .slice none 0 0], .int .i64 4]) (by simp [results, Tryz.results43, go_sem, zz.1, zz.2]) rfl (ReadPost.bad HOK.out ?_)
           exact ((HB0.out.trans (HB.out.mono (by omega))).setCell (by simp) _).setCell (by simp) _
         · have hb0d : decide (bt s k < 48) = false := by simp; omega
           have hb9d : decide (bt s k > 57) = false := by simp; omega
           have hw8 : IntKind.u8.wrap (bt s k - 48) = bt s k - 48 := by simp [IntKind.wrap, IntKind.signed, IntKind.bits]; omega
           have HD2 := hid (HD.out.step (by omega) (by omega))
           have HST := hid (rdN_step s k (by omega))
           have hb9e : decide (57 < bt s k) = false := by simp; omega
           go_wp2_with (at_builtin; refine wpList_app rfl (.tmp 40) (.tmp 45) rfl Tryz.underlying43 infoU8 rfl rfl (v := .slice pv (rdN s (k + 1)).length cv) (base := w.heap.size + 1) (n := (rdN s (k + 1)).length) (m := 1) (xs := (rdN s (k + 1)).map (Value.int .u8)) (news := [.int .u8 (bt s k - 48)]) (World.ownsRow.alloc HO.out _) rfl (by exact src_top (by first | rfl | (simp; done))) (by simp [Value.oneCell']) (by have := rdN_len s (k + 1); unfold maxLen; omega) (by have := rdN_len s (k + 1); omega) (by simp <;> omega) ?_; intro v4 w4 hap; have HO4 := hid (show OB w4 (w.heap.size + 1) v4 (rdN s k) from (by rw [HST.out]; exact OW.snoc hap.own)); have HB4 := hid ((HB.out.alloc (by omega) _).trans (hap.below (by simp <;> omega) (fun g hg => (World.ownsRow.lt HO.out g hg).1))); clear hap)
           go_roundw
           case rel => exact ⟨k, (k : Int) - 1, by go_num, by omega, by omega, by omega, HD2.out, HO4.out, HB4.out⟩
           case measure => simp [intOf] <;> omega
theorem read_any (s : ByteArray) (w : World) (hsz : s.size ≤ 140737488355328) : Calls Tryz.prog 43 #[.string s] w (ReadPost w s) := by
 by_cases h0 : s.size = 0
 · exact read_empty s w hsz h0
 · by_cases h45 : bt s 0 = 45
   · exact read_neg s w hsz (by omega) h45
   · exact read_pos s w hsz (by omega) h45
end
section
open Go Go.ChangeShapes Go.WideShapes Go.ChangeAt Go.RowKit Go.PlainAid
def spell : List UInt8 → Int
 | [] => 0
 | c :: r => ((c.toNat : Int) - 48) * 10 ^ r.length + spell r
theorem spell_append (a b : List UInt8) : spell (a ++ b) = spell a * 10 ^ b.length + spell b := by
 induction a with
 | nil => simp [spell]
 | cons c r ih =>
   simp only [List.cons_append, spell, ih, List.length_append]
   rw [Int.pow_add, Int.add_mul, Int.mul_assoc]
   omega
def AllDig (l : List UInt8) : Prop := ∀ c ∈ l, 48 ≤ c.toNat ∧ c.toNat ≤ 57
theorem spell_bd {l : List UInt8} (h : AllDig l) : 0 ≤ spell l ∧ spell l < 10 ^ l.length := by
 induction l with
 | nil => simp [spell]
 | cons c r ih =>
   have h1 := ih fun x hx => h x (by simp [hx])
   have h2 := h c (by simp)
   have h3 : (0 : Int) < 10 ^ r.length := pow_pos' (by decide) _
   simp only [spell, List.length_cons, Int.pow_succ]
   have h4 : 0 ≤ ((c.toNat : Int) - 48) * 10 ^ r.length := Int.mul_nonneg (by omega) (by omega)
   have h5 : ((c.toNat : Int) - 48) * 10 ^ r.length ≤ 9 * 10 ^ r.length := Int.mul_le_mul_of_nonneg_right (by omega) (by omega)
   omega
theorem bt_list (s : ByteArray) {k : Nat} (h : k < s.size) : bt s k = ((s.data.toList[k]'(by rw [← Lib.size_eq]; exact h)).toNat : Int) := by
 unfold bt
 rw [dif_pos h]
 simp
 rfl
theorem rdN_spell (s : ByteArray) : ∀ (n m : Nat), s.size - m = n → val 10 (rdN s m) = spell (s.data.toList.drop m)
 | 0, m, h => by
   have e : rdN s m = [] := List.length_eq_zero_iff.1 (by rw [rdN_len]; exact h)
   rw [e, List.drop_eq_nil_iff.2 (by rw [← Lib.size_eq]; omega)]
   rfl
 | n + 1, m, h => by
   have hm : m < s.size := by omega
   rw [rdN_step s m hm, val_append, rdN_spell s n (m + 1) (by omega), rdN_len, List.drop_eq_getElem_cons (i := m) (by rw [← Lib.size_eq]; exact hm), bt_list s hm]
   simp only [spell, val, List.length_drop]
   have hsz := Lib.size_eq s
   generalize ((s.data.toList[m]'(by rw [← Lib.size_eq]; exact hm)).toNat : Int) = d
   rw [← hsz, Int.mul_zero, Int.add_zero, Int.mul_comm (10 ^ _)]
   omega
theorem parseM_ok (M : Nat) (hM : 18446744073709551615 ≤ M) (l : List UInt8) : ∀ (acc : Nat), AllDig l → (acc : Int) * 10 ^ l.length + spell l < 1000000000000000000 → ∃ u : Nat, Lib.parseUintM M acc l = .ok u ∧ (u : Int) = (acc : Int) * 10 ^ l.length + spell l := by
 induction l with
 | nil => intro acc _ h; exact ⟨acc, by simp [Lib.parseUintM], by simp [spell]⟩
 | cons c r ih =>
   intro acc hd h
   have hc := hd c (by simp)
   have hr : AllDig r := fun x hx => hd x (by simp [hx])
   have hb := spell_bd hr
   have hp : (0 : Int) < 10 ^ r.length := pow_pos' (by decide) _
   simp only [spell, List.length_cons, Int.pow_succ] at h
   have e1 : (acc : Int) * (10 ^ r.length * 10) = (acc : Int) * 10 * 10 ^ r.length := by rw [Int.mul_comm (10 ^ r.length) 10, Int.mul_assoc]
   have e : (((acc * 10 + (c.toNat - 48) : Nat) : Int)) * 10 ^ r.length + spell r = (acc : Int) * (10 ^ r.length * 10) + (((c.toNat : Int) - 48) * 10 ^ r.length + spell r) := by
     rw [e1]
     have : ((acc * 10 + (c.toNat - 48) : Nat) : Int) = (acc : Int) * 10 + ((c.toNat : Int) - 48) := by omega
     rw [this, Int.add_mul]
     omega
   have hle : ((acc * 10 + (c.toNat - 48) : Nat) : Int) * 1 ≤ ((acc * 10 + (c.toNat - 48) : Nat) : Int) * 10 ^ r.length := Int.mul_le_mul_of_nonneg_left (by omega) (by omega)
   have hlt : ((acc * 10 + (c.toNat - 48) : Nat) : Int) < 1000000000000000000 := by omega
   obtain ⟨u, h1, h2⟩ := ih (acc * 10 + (c.toNat - 48)) hr (by rw [e]; exact h)
   refine ⟨u, ?_, by rw [h2, e]; simp only [spell, List.length_cons, Int.pow_succ]⟩
   unfold Lib.parseUintM
   rw [if_pos hc, if_neg (by omega), if_neg (by omega)]
   exact h1
theorem parse_ok {l : List UInt8} (h0 : l ≠ []) (hd : AllDig l) (hl : l.length ≤ 18) : ∃ u : Nat, Lib.parseUintB 64 l = .ok u ∧ (u : Int) = spell l := by
 have hb := spell_bd hd
 have hp : (10 : Int) ^ l.length ≤ 10 ^ 18 := by
   have : (10 : Int) ^ 18 = 10 ^ l.length * 10 ^ (18 - l.length) := by rw [← Int.pow_add]; congr 1; omega
   rw [this]
   have h1 : (0 : Int) < 10 ^ l.length := pow_pos' (by decide) _
   have h2 : (0 : Int) < 10 ^ (18 - l.length) := pow_pos' (by decide) _
   have := Int.mul_le_mul_of_nonneg_left (show (1 : Int) ≤ 10 ^ (18 - l.length) by omega) (show (0 : Int) ≤ 10 ^ l.length by omega)
   omega
 have h18 : (10 : Int) ^ 18 = 1000000000000000000 := by decide
 rw [h18] at hp
 obtain ⟨u, h1, h2⟩ := parseM_ok (2 ^ 64 - 1) (by decide) l 0 hd (by simp only [Int.ofNat_zero, Int.zero_mul, Int.zero_add]; omega)
 refine ⟨u, ?_, by rw [h2]; simp only [Int.ofNat_zero, Int.zero_mul, Int.zero_add]⟩
 unfold Lib.parseUintB
 rw [if_neg h0]
 exact h1
end
section
open Go Go.ChangeShapes Go.WideShapes Go.ChangeAt Go.RowKit Go.PlainAid Go.Joins
def bodyT (s : ByteArray) : ByteArray := ⟨(s.data.toList.drop (fromT s)).toArray⟩
theorem list_size (l : List UInt8) : (⟨l.toArray⟩ : ByteArray).size = l.length := by rw [Lib.size_eq]
theorem hasPrefixT (s : ByteArray) : Lib.hasPrefix s.data.toList [45] = negT s := by
 unfold Lib.hasPrefix negT
 have hs := Lib.size_eq s
 by_cases h0 : s.size = 0
 · have : s.data.toList = [] := List.length_eq_zero_iff.1 (by omega)
   rw [this, h0]; rfl
 · obtain ⟨c, r, hl⟩ : ∃ c r, s.data.toList = c :: r := by
     cases hl : s.data.toList with
     | nil => exact absurd (show s.size = 0 by rw [Lib.size_eq, hl]; rfl) h0
     | cons c r => exact ⟨c, r, rfl⟩
   have hb : bt s 0 = (c.toNat : Int) := by rw [bt_list s (by omega)]; simp only [hl, List.getElem_cons_zero]
   rw [hb, hl, decide_eq_true (show 0 < s.size by omega), Bool.true_and]
   simp only [List.isPrefixOf, Bool.and_true]
   rw [Bool.eq_iff_iff, beq_iff_eq, beq_iff_eq]
   constructor
   · intro e; subst e; rfl
   · intro e
     have : c.toNat = 45 := by omega
     exact (UInt8.toNat_inj.1 (by rw [this]; rfl)).symm
theorem trimPrefixT (s : ByteArray) : Lib.trimPrefix s.data.toList [45] = s.data.toList.drop (fromT s) := by
 unfold Lib.trimPrefix fromT
 rw [hasPrefixT]
 cases negT s <;> simp
theorem cutPrefix_any (s : ByteArray) (w : World) : Calls Tryz.prog 74 #[.string s, .string ⟨#[45]⟩] w fun e w' => e = .returned (.tuple #[.string (bodyT s), .bool (negT s)]) ∧ w' = w := by
 have h := Tryz.strings_CutPrefix s ⟨#[45]⟩ w
 rw [show (⟨#[45]⟩ : ByteArray).data.toList = [45] from rfl, hasPrefixT, trimPrefixT] at h
 exact h
def trimT (s : ByteArray) : ByteArray := ⟨(s.data.toList.dropWhile (· == 48)).toArray⟩
theorem trimLeft_any (s : ByteArray) (w : World) : Calls Tryz.prog 75 #[.string s, .string ⟨#[48]⟩] w fun e w' => e = .returned (.string (trimT s)) ∧ w' = w :=
 Tryz.strings_TrimLeft_one s 48 (by decide) w
theorem parseUint_any (s : ByteArray) (w : World) (h0 : s.size ≠ 0) (hd : AllDig s.data.toList) (hl : s.size ≤ 18) :
   Calls Tryz.prog 76 #[.string s, .int .i64 10, .int .i64 64] w fun e w' => e = .returned (.tuple #[.int .u64 (spell s.data.toList), .nilIface]) ∧ Below w.heap.size w w' := by
 have hs := Lib.size_eq s
 obtain ⟨u, h1, h2⟩ := parse_ok (l := s.data.toList) (fun e => h0 (by rw [hs, e]; rfl)) hd (by omega)
 refine (Tryz.strconv_ParseUint_10_at64_ok s (by omega) u h1 w).mono ?_
 rintro e w' ⟨rfl, hw⟩
 refine ⟨by rw [h2], ?_⟩
 rcases hw with rfl | rfl
 · exact Below.refl _ _
 · exact below_bytesWorld _ _ _ _ (Nat.le_refl _)
end
section
open Go Go.ChangeShapes Go.WideShapes Go.ChangeAt Go.RowKit Go.PlainAid Go.Joins
theorem body_size (s : ByteArray) : (bodyT s).size = s.size - fromT s := by
 unfold bodyT
 rw [list_size, List.length_drop, ← Lib.size_eq]
theorem body_bt (s : ByteArray) {k : Nat} (h : k < (bodyT s).size) : bt (bodyT s) k = bt s (fromT s + k) := by
 have h' := h
 rw [body_size] at h'
 rw [bt_list _ h, bt_list s (by omega)]
 simp [bodyT, List.getElem_drop]
theorem allDig_of {B : ByteArray} (h : ∀ j, j < B.size → 48 ≤ bt B j ∧ bt B j ≤ 57) : AllDig B.data.toList := fun c hc => by
 obtain ⟨j, hj, rfl⟩ := List.mem_iff_getElem.1 hc
 have hj' : j < B.size := by rw [Lib.size_eq]; exact hj
 have := h j hj'
 rw [bt_list B hj'] at this
 omega
theorem be_empty (B : ByteArray) : B.toList.isEmpty = decide (B.size = 0) := by
 obtain ⟨⟨l⟩⟩ := B
 have e : (ByteArray.mk ⟨l⟩).toList = l := by simp
 rw [e]
 cases l <;> simp [ByteArray.size]
def ParsePost (W : World) (s : ByteArray) (e : Ending) (w' : World) : Prop :=
 ∃ neg u ws f, e = .returned (.tuple #[.agg #[.bool neg, u], .int .i64 f]) ∧ MU w' W.heap.size u ws ∧ TQ B18 s neg ws f ∧ Below W.heap.size W w'
theorem ParsePost.bad {w w' : World} {s : ByteArray} (h : ¬ OkT s) (hb : Below w.heap.size w w') : ParsePost w s (.returned (.tuple #[.agg #[.bool false, .slice none 0 0], .int .i64 4])) w' :=
 ⟨false, _, [], 4, rfl, .inl ⟨rfl, rfl⟩, .inl ⟨h, rfl, rfl, rfl⟩, hb⟩
theorem dw_head {p : UInt8 → Bool} : ∀ {l : List UInt8} {d : UInt8} {r : List UInt8}, l.dropWhile p = d :: r → p d = false
 | c :: l, d, r, h => by
   rw [List.dropWhile_cons] at h
   by_cases hc : p c = true
   · rw [if_pos hc] at h; exact dw_head h
   · rw [if_neg hc] at h
     simp only [List.cons.injEq] at h
     rw [← h.1]; simpa using hc
theorem spell_zeros : ∀ {l : List UInt8}, (∀ c ∈ l, c = 48) → spell l = 0
 | [], _ => rfl
 | c :: r, h => by
   have := h c (by simp)
   subst this
   have hr := spell_zeros (l := r) fun x hx => h x (List.mem_cons_of_mem _ hx)
   simp only [spell, hr]
   simp
theorem trim_cut {s : ByteArray} (h : DigsFrom s (fromT s)) : CutAt (rdN s (fromT s)) (trimT (bodyT s)).size ∧ spell (trimT (bodyT s)).data.toList = val 10 (rdN s (fromT s)) := by
 obtain ⟨l, hl⟩ : ∃ l, s.data.toList.drop (fromT s) = l := ⟨_, rfl⟩
 have hn : l.length = s.size - fromT s := by rw [← hl, List.length_drop, ← Lib.size_eq]
 have hT : trimT (bodyT s) = ⟨(l.dropWhile (· == 48)).toArray⟩ := by rw [← hl]; rfl
 have hTs : (trimT (bodyT s)).size = (l.dropWhile (· == 48)).length := by rw [hT, list_size]
 have hZD : l.takeWhile (· == 48) ++ l.dropWhile (· == 48) = l := List.takeWhile_append_dropWhile
 have hZ : ∀ c ∈ l.takeWhile (· == 48), c = 48 := fun c hc => by
   have := List.all_eq_true.1 (List.all_takeWhile (p := (· == (48 : UInt8))) (l := l)) c hc
   simpa using this
 have hlen := congrArg List.length hZD
 rw [List.length_append] at hlen
 have hsp : spell (l.dropWhile (· == 48)) = val 10 (rdN s (fromT s)) := by
   rw [rdN_spell s _ _ rfl, hl]
   conv => rhs; rw [← hZD]
   rw [spell_append, spell_zeros hZ, Int.zero_mul, Int.zero_add]
 have hrd : ∀ j, (hj : j < l.length) → (rdN s (fromT s)).getD j 0 = ((l[l.length - 1 - j]'(by omega)).toNat : Int) - 48 := fun j hj => by
   unfold rdN
   rw [List.getD_eq_getElem?_getD, List.getElem?_map, List.getElem?_range (by omega)]
   simp only [Option.map_some, Option.getD_some]
   rw [bt_list s (by omega)]
   have e1 : s.data.toList[s.size - 1 - j]? = l[l.length - 1 - j]? := by
     have key : ∀ i, l[i]? = s.data.toList[fromT s + i]? := fun i => by rw [← hl, List.getElem?_drop]
     rw [key, show fromT s + (l.length - 1 - j) = s.size - 1 - j by omega]
   rw [List.getElem?_eq_getElem (by rw [← Lib.size_eq]; omega), List.getElem?_eq_getElem (by omega)] at e1
   rw [Option.some.inj e1]
 rw [hTs]
 refine ⟨⟨by rw [rdN_len]; omega, fun j hj => ?_, fun hk => ?_⟩, by rw [hT]; exact hsp⟩
 · by_cases hjl : j < l.length
   · rw [hrd j hjl]
     have hi : l.length - 1 - j < (l.takeWhile (· == 48)).length := by omega
     have e : l[l.length - 1 - j]'(by omega) = (l.takeWhile (· == 48))[l.length - 1 - j] := by
       have h2 : (l.takeWhile (· == 48) ++ l.dropWhile (· == 48))[l.length - 1 - j]? = l[l.length - 1 - j]? := by rw [hZD]
       rw [List.getElem?_append_left hi, List.getElem?_eq_getElem hi, List.getElem?_eq_getElem (by omega)] at h2
       exact (Option.some.inj h2).symm
     rw [e, hZ _ (List.getElem_mem hi)]
     rfl
   · rw [List.getD_eq_getElem?_getD, List.getElem?_eq_none (by rw [rdN_len]; omega)]; rfl
 · obtain ⟨d, r, hd⟩ : ∃ d r, l.dropWhile (· == 48) = d :: r := by
     cases hd : l.dropWhile (· == 48) with
     | nil => rw [hd] at hk; simp at hk
     | cons d r => exact ⟨d, r, rfl⟩
   have h1 := dw_head hd
   have h2 : (l.takeWhile (· == 48) ++ l.dropWhile (· == 48))[l.length - 1 - ((l.dropWhile (· == 48)).length - 1)]? = l[l.length - 1 - ((l.dropWhile (· == 48)).length - 1)]? := by rw [hZD]
   rw [List.getElem?_append_right (by omega), show l.length - 1 - ((l.dropWhile (· == 48)).length - 1) - (l.takeWhile (· == 48)).length = 0 by omega, List.getElem?_eq_getElem (by omega), List.getElem?_eq_getElem (l := l) (by omega)] at h2
   rw [hrd _ (by omega), ← Option.some.inj h2]
   have h3 : (l.dropWhile (· == 48))[0]'(by omega) = d := by simp only [hd, List.getElem_cons_zero]
   rw [h3]
   intro e
   have h48 : d.toNat = 48 := by omega
   have : d = 48 := UInt8.toNat_inj.1 (by rw [h48]; rfl)
   rw [this] at h1
   simp at h1
def strLen : Value → Nat
 | .string b => b.size
 | _ => 0
theorem parse_any (s : ByteArray) (w : World) (hsz : s.size ≤ 140737488355328) : Calls Tryz.prog 34 #[.string s] w (ParsePost w s) := by
 have hbs := body_size s
 have HB0 := hid (show Below w.heap.size w (w.alloc (.cells #[.bool false, .slice none 0 0] 24)) from (Below.refl _ _).alloc (Nat.le_refl _) _)
 have HX0 := hid (show Box2 (w.alloc (.cells #[.bool false, .slice none 0 0] 24)) w.heap.size (.bool false) (.slice none 0 0) from Box2.new _ _ _ _ rfl)
 have x0 := HX0.out.c0
 have x1 := HX0.out.c1
 have hb := get_bt (bodyT s)
 by_cases h0 : (bodyT s).size = 0
 · have HOK := hid (show ¬ OkT s from fun h => by have := h.1; omega)
   have hE : (bodyT s).toList.isEmpty = true := by rw [be_empty, decide_eq_true h0]
   go_enter Tryz.func34, Tryz.ntmps34
   go_wp2_with (first | (go_at_call 74; (with_reducible refine (cutPrefix_any s _).mono ?_); rintro e w1 ⟨rfl, rfl⟩) | fail)
   refine bodyPost_ret (v := .tuple #[.agg #[.bool false, .slice none 0 0], .int .i64 4]) (by simp [results, Tryz.results34, go_sem]) rfl (ParsePost.bad HOK.out HB0.out)
 · have hE : (bodyT s).toList.isEmpty = false := by rw [be_empty, decide_eq_false h0]
   have HBT := hid (fun k (h : k < (bodyT s).size) => body_bt s h)
   go_enter Tryz.func34, Tryz.ntmps34
   go_wp2_with (first | (go_at_call 74; (with_reducible refine (cutPrefix_any s _).mono ?_); rintro e w1 ⟨rfl, rfl⟩) | fail)
   go_loopw [6, 21] (fun _ iv wr => ∃ i : Nat, iv = .int .i64 i ∧ i ≤ (bodyT s).size ∧ wr = (w.alloc (.cells #[.bool false, .slice none 0 0] 24)) ∧ ∀ j, j < i → 48 ≤ bt (bodyT s) j ∧ bt (bodyT s) j ≤ 57) (fun _ iv _ => (bodyT s).size - (intOf iv).toNat)
   case atStart => exact ⟨0, by go_num, by omega, rfl, fun j hj => by omega⟩
   case round =>
     obtain ⟨i, rfl, hi, rfl, hall⟩ := hrel
     have HA := hid hall
     clear hall
     by_cases hlt : i < (bodyT s).size
     · have hiz : (i : Int) < ((bodyT s).size : Int) := by omega
       have hbn := bt_nonneg (bodyT s) i
       by_cases hb0 : bt (bodyT s) i < 48
       · have HOK := hid (show ¬ OkT s from fun h => by have := h.2 (fromT s + i) (by omega) (by omega); rw [← HBT.out i hlt] at this; omega)
         go_wp2_with fail
         refine bodyPost_ret (v := .tuple #[.agg #[.bool false, .slice none 0 0], .int .i64 4]) (by simp [results, Tryz.results34, go_sem]) rfl (ParsePost.bad HOK.out HB0.out)
       · by_cases hb9 : bt (bodyT s) i > 57
         · have HOK := hid (show ¬ OkT s from fun h => by have := h.2 (fromT s + i) (by omega) (by omega); rw [← HBT.out i hlt] at this; omega)
           have hb0d : decide (bt (bodyT s) i < 48) = false := by simp; omega
           go_wp2_with fail
           refine bodyPost_ret (v := .tuple #[.agg #[.bool false, .slice none 0 0], .int .i64 4]) (by simp [results, Tryz.results34, go_sem]) rfl (ParsePost.bad HOK.out HB0.out)
         · have hb0d : decide (bt (bodyT s) i < 48) = false := by simp; omega
           have hb9d : decide (bt (bodyT s) i > 57) = false := by simp; omega
           have hb9e : decide (57 < bt (bodyT s) i) = false := by simp; omega
           go_wp2_with fail
           go_roundw
           case rel => exact ⟨i + 1, by go_num, by omega, by first | rfl | trivial, fun j hj => by
             by_cases e : j = i
             · subst e; exact ⟨by omega, by omega⟩
             · exact HA.out j (by omega)⟩
           case measure => simp [intOf] <;> omega
     · obtain rfl : i = (bodyT s).size := by omega
       have hiz : ¬ (((bodyT s).size : Int) < ((bodyT s).size : Int)) := by omega
       have HDF := hid (show DigsFrom s (fromT s) from fun k h1 h2 => by
         have := HA.out (k - fromT s) (by omega)
         rw [HBT.out _ (by omega), show fromT s + (k - fromT s) = k by omega] at this
         exact this)
       have HOK := hid (show OkT s from ⟨by omega, HDF.out⟩)
       have HTC := hid (trim_cut HDF.out)
       have HSG := hid (sgn_cut (neg := negT s) HTC.out.1 (rdN_dig HDF.out))
       have HAD := hid (show AllDig (trimT (bodyT s)).data.toList from fun c hc => allDig_of HA.out c (List.dropWhile_sublist _ |>.subset hc))
       have hkl := HTC.out.1.1
       rw [rdN_len] at hkl
       have hlt2 : ((rdN s (fromT s)).take (trimT (bodyT s)).size).length = (trimT (bodyT s)).size := by rw [List.length_take, rdN_len]; omega
       have HFT := hid (show (trimT (bodyT s)).size ≤ 540 ↔ Small (numT s) by have := HSG.out.fits; rw [hlt2] at this; exact this)
       have HSP := hid HTC.out.2
       clear hlt2 hb HA HBT HTC HSG
       have HTL := hid (fun wx => trimLeft_any (bodyT s) wx)
       generalize trimT (bodyT s) = T0 at HAD hkl HFT HSP HTL
       by_cases hk5 : T0.size > 540
       · have hkz : (T0.size : Int) > 540 := by omega
         go_wp2_with (first | (go_at_call 75; (with_reducible refine (HTL.out _).mono ?_); rintro e w1 ⟨rfl, rfl⟩) | fail)
         refine bodyPost_ret (v := .tuple #[.agg #[.bool false, .slice none 0 0], .int .i64 2]) (by simp [results, Tryz.results34, go_sem]) rfl ⟨false, _, [], 2, rfl, .inl ⟨rfl, rfl⟩, .inr (.inl ⟨HOK.out, fun h => by have := HFT.out.2 h; omega, rfl, rfl, rfl⟩), HB0.out⟩
       · have hkz : ¬ ((T0.size : Int) > 540) := by omega
         go_wp2_with (first | (go_at_call 75; (with_reducible refine (HTL.out _).mono ?_); rintro e w1 ⟨rfl, rfl⟩) | fail)
         go_loopw [4, 7, 8, 9, 10] (fun bv v _ _ _ wr => ∃ (B : ByteArray) (P : List UInt8) (ws : List Int), bv = .string B ∧ B.data.toList ++ P = T0.data.toList ∧ (P.length = 18 * ws.length ∨ B.size = 0) ∧ ws.length ≤ P.length ∧ val B18 ws = spell P ∧ Dig B18 ws ∧ OW .u64 U64 wr (w.heap.size + 1) v ws ∧ Below (w.heap.size + 1) (w.alloc (.cells #[.bool false, .slice none 0 0] 24)) wr) (fun bv _ _ _ _ _ => strLen bv)
         case atStart => exact ⟨T0, [], [], rfl, by simp, .inl rfl, Nat.le_refl _, rfl, Dig.nil (by decide), OW.nil _ _, Below.refl _ _⟩
         case round =>
           obtain ⟨B, P, ws, rfl, hBP, hPl, hwl, hval, hdig, hO, hB⟩ := hrel
           have hbl := congrArg List.length hBP
           rw [List.length_append, ← Lib.size_eq, ← Lib.size_eq] at hbl
           have HBP := hid hBP
           have HPL := hid hPl
           have HVAL := hid hval
           have HDIG := hid hdig
           have HO := hid hO
           have HB := hid hB
           have hsz' := hB.size
           simp only [alloc_size] at hsz'
           clear hBP hPl hval hdig hO hB
           obtain ⟨pv, cv, rfl⟩ := own_formS HO.out
           by_cases hB0 : B.size = 0
           · have hbz : ¬ ((B.size : Int) > 0) := by omega
             have hPT : T0.data.toList = P := by rw [← HBP.out, List.length_eq_zero_iff.1 (show B.data.toList.length = 0 by rw [← Lib.size_eq]; exact hB0)]; rfl
             have HNV := hid (show sg (negT s) (val B18 ws) = numT s by rw [HVAL.out, ← hPT, HSP.out]; rfl)
             have e0 := HB.out.block w.heap.size (by simp)
             have m0 := (World.cell?_of_block (a := ⟨w.heap.size, 0, none⟩) e0).trans HX0.out.c0
             have m1 := (World.cell?_of_block (a := ⟨w.heap.size, 1, none⟩) e0).trans HX0.out.c1
             clear e0 x0 x1
             go_wp2_with fail
             refine (copied_any (negT s) _ ws wr (OW.rd HO.out (by omega))).mono ?_
             rintro e w4 ⟨k, g, hk, hg, rfl, hL, hb4⟩
             obtain ⟨neg', p, ws', hv, hM, hS, hlk⟩ := made_sgn (B0 := wr.heap.size) (negT s) hk HDIG.out hL hg
             rw [hv]
             have r0 := bcl hb4 m0
             have r1 := bcl hb4 m1
             have rf0 := (hb4.frozen (p := ⟨w.heap.size, 0, none⟩) (World.block_lt_of_cell? _ _ m0)).trans ((World.frozen?_of_block (a := ⟨w.heap.size, 0, none⟩) (HB.out.block w.heap.size (by simp))).trans HX0.out.f0)
             have rf1 := (hb4.frozen (p := ⟨w.heap.size, 1, none⟩) (World.block_lt_of_cell? _ _ m1)).trans ((World.frozen?_of_block (a := ⟨w.heap.size, 1, none⟩) (HB.out.block w.heap.size (by simp))).trans HX0.out.f1)
             have HM := hid (hM w4 rfl)
             have HSS := hid (show Sgn B18 neg' ws' (numT s) by rw [← HNV.out]; exact hS)
             have HB4 := hid (HB0.out.trans ((HB.out.trans (hb4.mono (by omega))).mono (by omega)))
             have HSM := hid (HFT.out.1 (by omega))
             clear hv hM hS hlk hb4 hL hk m0 m1
             go_wp2_with fail
             have zz := two_setW (x0 := .bool neg') (x1 := .slice p k k) r0 r1
             refine bodyPost_ret (v := .tuple #[.agg #[.bool neg', .slice p k k], .int .i64 0]) (by simp [results, Tryz.results34, go_sem, zz.1, zz.2]) rfl ⟨neg', _, ws', 0, rfl, (HM.out.set2 (by omega) _ _).low (by omega), .inr (.inr ⟨HOK.out, HSM.out, rfl, HSS.out⟩), (HB4.out.setCell (by simp) _).setCell (by simp) _⟩
           · have hbz : (B.size : Int) > 0 := by omega
             obtain ⟨F, hF⟩ : ∃ F : Nat, max 0 ((B.size : Int) - 18) = (F : Int) := ⟨(max 0 ((B.size : Int) - 18)).toNat, by omega⟩
             have hF1 : F < B.size := by omega
             have hF2 : B.size - F ≤ 18 := by omega
             have hF3 : F = 0 ∨ B.size - F = 18 := by omega
             have hwr : IntKind.i64.wrap ((B.size : Int) - 18) = (B.size : Int) - 18 := IntWalk.i64_in _ (by omega)
             have hFz : (F : Int) ≤ (B.size : Int) := by omega
             obtain ⟨C, hC⟩ : ∃ C, B.extract F B.size = C := ⟨_, rfl⟩
             have hCl : C.data.toList = B.data.toList.drop F := by
               rw [← hC, ← Lib.toList_data, Lib.extract_toList, List.take_of_length_le (by rw [List.length_drop, ← Lib.size_eq]; omega)]
             have hCs : C.size = B.size - F := by rw [Lib.size_eq, hCl, List.length_drop, ← Lib.size_eq]
             obtain ⟨D, hD⟩ : ∃ D, B.extract 0 F = D := ⟨_, rfl⟩
             have hDl : D.data.toList = B.data.toList.take F := by
               rw [← hD, ← Lib.toList_data, Lib.extract_toList, List.drop_zero]; rfl
             have hDs : D.size = F := by rw [Lib.size_eq, hDl, List.length_take, ← Lib.size_eq]; omega
             have hdc : AllDig C.data.toList := fun c hc => HAD.out c (by rw [← HBP.out]; exact List.mem_append_left _ (List.mem_of_mem_drop (by rw [← hCl]; exact hc)))
             have hsb := spell_bd hdc
             have hpb : (10 : Int) ^ C.data.toList.length ≤ 1000000000000000000 := by
               rw [← Lib.size_eq]
               have h18 : (10 : Int) ^ 18 = 1000000000000000000 := by decide
               rw [← h18]
               exact pow_mono' (by decide) (by omega)
             have HCN := hid (parseUint_any C wr (by omega) hdc (by omega))
             have HNEW := hid (show D.data.toList ++ (C.data.toList ++ P) = T0.data.toList by rw [← List.append_assoc, hDl, hCl, List.take_append_drop]; exact HBP.out)
             have hPL : P.length = 18 * ws.length := by rcases HPL.out with h | h
                                                        · exact h
                                                        · omega
             have HVN := hid (show val B18 (ws ++ [spell C.data.toList]) = spell (C.data.toList ++ P) by
               rw [val_append, HVAL.out, spell_append, hPL, pow18]
               simp only [val, Int.mul_zero, Int.add_zero]
               rw [Int.mul_comm (B18 ^ _)]; omega)
             have HDN := hid (HDIG.out.append (Dig.cons (d := spell C.data.toList) (by rw [B18]; omega) (Dig.nil (by decide))))
             have HLN := hid (show (C.data.toList ++ P).length = 18 * (ws.length + 1) ∨ D.size = 0 by
               rw [List.length_append, ← Lib.size_eq]
               omega)
             have HWL := hid (show ws.length + 1 ≤ (C.data.toList ++ P).length by rw [List.length_append, ← Lib.size_eq]; omega)
             have hcw : (0 : Int) ≤ spell C.data.toList := hsb.1
             clear hCl hDl hdc hpb
             go_wp2_with fail
             refine HCN.out.mono ?_
             rintro e w5 ⟨rfl, hb5⟩
             have HO5 := hid (HO.out.keep hb5)
             have HB5 := hid (HB.out.trans (hb5.mono (by omega)))
             have hz5 := hb5.size
             clear hb5 x0 x1
             go_wp2_with (at_builtin; refine wpList_app rfl (.tmp 56) (.tmp 58) rfl Tryz.underlying22 infoU64 rfl rfl (v := .slice pv ws.length cv) (base := w.heap.size + 1) (n := ws.length) (m := 1) (xs := ws.map (Value.int .u64)) (news := [.int .u64 (spell C.data.toList)]) (World.ownsRow.alloc HO5.out _) rfl (by exact src_top (by first | rfl | (simp; done))) (by simp [Value.oneCell']) (by unfold maxLen; omega) (by omega) (by simp <;> omega) ?_; intro v6 w6 hap; have HO6 := hid (show OW .u64 U64 w6 (w.heap.size + 1) v6 (ws ++ [spell C.data.toList]) from OW.snoc hap.own); have HB6 := hid ((HB5.out.alloc (by omega) _).trans (hap.below (by simp <;> omega) (fun g hg => (World.ownsRow.lt HO5.out g hg).1))); clear hap)
             go_roundw
             case rel => exact ⟨D, C.data.toList ++ P, ws ++ [spell C.data.toList], by first | rfl | (rw [← hD]; simp), HNEW.out, by have := HLN.out; simp only [List.length_append, List.length_singleton] at this ⊢; exact this, by have := HWL.out; simp only [List.length_append, List.length_singleton] at this ⊢; exact this, HVN.out, HDN.out, HO6.out, HB6.out⟩
             case measure => simp [strLen]; omega
end
section
open Go Go.ChangeShapes Go.WideShapes Go.ChangeAt Go.RowKit Go.Sort Go.Lib
def P10 (w : World) : Prop := Lib.TabIs Tryz.prog w "internal/strconv.uint64pow10" .u64 Lib.pow10Tab
theorem below_grow (w : World) (k : Nat) (os : Array Obj) : Below w.heap.size w (grow (w.drewN k) os) :=
 ⟨(below_drewN (Below.refl w.heap.size w) k).os, by simp [grow], (below_drewN (Below.refl w.heap.size w) k).output, by simp [grow], fun g hg => Lib.heap_grow_old w k os g hg⟩
theorem formatUint_big (u : Nat) (hu : 100 ≤ u) (hu64 : u < 18446744073709551616) (w : World) (htab : P10 w) :
   Calls Tryz.prog 165 #[.int .u64 (u : Int), .int .i64 10] w fun e w' => e = .returned (.string ⟨(Lib.decDigits u).toArray⟩) ∧ Below w.heap.size w w' := by
 have hnd20 : Lib.nDigits u ≤ 20 := Lib.nDigits_le20 u hu64
 have hsl : ∀ W, (Instr.sliceAt 207 (.pointer (some ⟨w.heap.size, 0, none⟩)) none (some (.int .i64 (Lib.nDigits u : Int))) none).run Tryz.prog W = .ok (.slice (some ⟨w.heap.size, 0, none⟩) (Lib.nDigits u) 24) W := fun W => by
   rw [run_sliceAt_array_h W 207 ⟨w.heap.size, 0, none⟩ (by kernel_rfl) .i64 (Lib.nDigits u : Int) (by omega) (by rw [show Tryz.prog.arrayLen 207 = 24 by kernel_rfl]; omega)]
   rw [show Tryz.prog.arrayLen 207 = 24 by kernel_rfl, show (sizeOf (Tryz.prog.elem 207)).run Tryz.prog W = .ok 1 W by kernel_rfl]
   simp [Result.andThen, slicedAt, Addr.add]
 have hH0 := Lib.holds_zero0 w 207 (Lib.nDigits u) (by omega)
 have hfmt := Tryz.internal_strconv_formatBase10 w.heap.size 0 24 u (Array.replicate (Lib.nDigits u) 0) (w.alloc (.cells Lib.zeros24 207)) hH0 (by rw [Array.size_replicate]; exact Lib.lt_pow_nDigits u) hu64 (by rw [Array.size_replicate]; omega)
 rw [Array.size_replicate] at hfmt
 have HH0 := hid hH0
 have HT := hid htab
 have hge : ¬ ((u : Int) < 100) := by omega
 clear hH0 htab
 go_enter Tryz.func165, Tryz.ntmps165
 go_wp2_with (first
   | (go_at_call 188; refine (Tryz.internal_strconv_numDigits u (by omega) hu64 _ (Lib.tabIs_alloc HT.out _)).mono ?_; rintro e w' ⟨rfl, rfl⟩)
   | fail)
 refine hfmt.mono ?_
 rintro e w' ⟨rfl, k, v', dk, rfl, hF⟩
 have hcv : (convert 43 9 (.slice (some ⟨w.heap.size, 0, none⟩) (Lib.nDigits u) 24)).run Tryz.prog ((putRow (fun (b : UInt8) => Value.int .u8 (b.toNat : Int)) (w.alloc (.cells Lib.zeros24 207)) w.heap.size 0 dk).drewN k) = .ok (.string ⟨(Lib.decDigits u).toArray⟩) ((putRow (fun (b : UInt8) => Value.int .u8 (b.toNat : Int)) (w.alloc (.cells Lib.zeros24 207)) w.heap.size 0 dk).drewN k) := by
   have h := run_convert_bytes_back (P := Tryz.prog) ((putRow (fun (b : UInt8) => Value.int .u8 (b.toNat : Int)) (w.alloc (.cells Lib.zeros24 207)) w.heap.size 0 dk).drewN k) 43 9 5 ⟨w.heap.size, 0, none⟩ 24 (Lib.decDigits u) Tryz.underlying43 Tryz.underlying5 Tryz.underlying9 (fun j hj => by
     rw [Lib.row_is_numeral hF j hj, Lib.add_plain, World.cell?_drewN]
     exact cell?_putRow (fun (b : UInt8) => Value.int .u8 (b.toNat : Int)) _ w.heap.size 0 _ dk HH0.out (by rw [hF.size, Array.size_replicate]) j (by rw [hF.size]; rw [Lib.decDigits_length] at hj; exact hj))
   rw [Lib.decDigits_length] at h
   exact h
 go_wp2_with fail
 go_ret
 obtain ⟨os, eo⟩ := Lib.fin_at w (.cells Lib.zeros24 207) dk k 0
 refine ⟨rfl, ?_⟩
 rw [eo]
 exact below_grow w k os
theorem formatUint_any (u : Nat) (hu64 : u < 18446744073709551616) (w : World) (htab : P10 w) :
   Calls Tryz.prog 136 #[.int .u64 (u : Int), .int .i64 10] w fun e w' => e = .returned (.string ⟨(Lib.decDigits u).toArray⟩) ∧ Below w.heap.size w w' := by
 go_enter Tryz.func136, Tryz.ntmps136
 go_wp2_with fail
 by_cases h : u < 100
 · refine (formatUint_in u h _).mono ?_
   rintro e w' ⟨rfl, rfl⟩
   go_wp2_with fail
   go_ret
   exact ⟨rfl, Below.refl _ _⟩
 · refine (formatUint_big u (by omega) hu64 _ htab).mono ?_
   rintro e w' ⟨rfl, hb⟩
   go_wp2_with fail
   go_ret
   exact ⟨rfl, hb⟩
theorem P10.keep {w w' : World} (h : P10 w) (hb : Below w.heap.size w w') : P10 w' := by
 unfold P10 Lib.TabIs World.var? at *
 cases hg : Tryz.prog.globalNamed "internal/strconv.uint64pow10" with
 | none => simp [hg] at h
 | some g =>
   simp only [hg, Option.bind_some] at h ⊢
   cases hgb : w.heap[g]? with
   | none => simp [hgb] at h
   | some o =>
     rw [hb.block g (Array.getElem?_eq_some_iff.1 hgb).1]
     exact h
end
section
open Go Go.ChangeShapes Go.WideShapes Go.ChangeAt Go.RowKit Go.PlainAid
def revD (l : List UInt8) : List Int := (l.map fun c => (c.toNat : Int) - 48).reverse
theorem revD_val (l : List UInt8) : val 10 (revD l) = spell l := by
 induction l with
 | nil => rfl
 | cons c r ih =>
   unfold revD at ih ⊢
   rw [List.map_cons, List.reverse_cons, val_append, ih]
   simp only [val, spell, List.length_reverse, List.length_map, Int.mul_zero, Int.add_zero]
   rw [Int.mul_comm (10 ^ _)]
   omega
theorem revD_dig {l : List UInt8} (h : AllDig l) : Dig 10 (revD l) := fun i => by
 unfold revD
 rw [List.getD_eq_getElem?_getD]
 cases hi : ((l.map fun c => (c.toNat : Int) - 48).reverse)[i]? with
 | none => simp
 | some x =>
   have hm := List.mem_of_getElem? hi
   rw [List.mem_reverse, List.mem_map] at hm
   obtain ⟨c, hc, rfl⟩ := hm
   have := h c hc
   simp only [Option.getD_some]
   omega
theorem revD_canon {c : UInt8} {r : List UInt8} (h : AllDig (c :: r)) (h0 : c.toNat ≠ 48) : Canon 10 (revD (c :: r)) := by
 refine ⟨revD_dig h, fun _ => ?_⟩
 unfold revD
 rw [List.map_cons, List.reverse_cons, List.getD_eq_getElem?_getD, List.length_append, List.length_singleton, Nat.add_sub_cancel, List.getElem?_append_right (Nat.le_refl _), Nat.sub_self]
 simp only [List.getElem?_cons_zero, Option.getD_some]
 omega
theorem revD_show {l : List UInt8} (h : AllDig l) (neg : Bool) : strOfNums (showN neg (revD l)) = ⟨((if neg then [45] else []) ++ l).toArray⟩ := by
 unfold strOfNums showN revD
 congr 2
 rw [List.map_append, List.reverse_reverse, List.map_map, List.map_map]
 congr 1
 · cases neg <;> rfl
 · conv => rhs; rw [← List.map_id l]
   apply List.map_congr_left
   intro c hc
   have := h c hc
   simp only [Function.comp]
   rw [show (48 + ((c.toNat : Int) - 48)).toNat = c.toNat by omega]
   simp
theorem show_uniq {neg : Bool} {c : UInt8} {r : List UInt8} {ds : List Int} (h : AllDig (c :: r)) (h0 : c.toNat ≠ 48) (hd : Canon 10 ds) (hv : val 10 ds = spell (c :: r)) : showB neg ds = ⟨((if neg then [45] else []) ++ (c :: r)).toArray⟩ := by
 have e : ds = revD (c :: r) := canon_uniq (by decide) hd (revD_canon h h0) (by rw [revD_val]; exact hv)
 subst e
 unfold showB
 rw [if_neg (by simp [revD]), revD_show h]
theorem u8n {n : Nat} (h : n < 256) : (UInt8.ofNat n).toNat = n := UInt8.toNat_ofNat_of_lt' h
theorem dec_dig (u : Nat) : AllDig (Lib.decDigits u) := by
 induction u using Nat.strongRecOn with
 | _ u ih =>
   by_cases h : u < 10
   · rw [Lib.decDigits_one h]
     intro c hc
     rw [List.mem_singleton] at hc
     subst hc
     rw [u8n (by omega)]
     omega
   · rw [Lib.decDigits, dif_neg h]
     intro c hc
     rw [List.mem_append] at hc
     rcases hc with hc | hc
     · exact ih (u / 10) (by omega) c hc
     · rw [List.mem_singleton] at hc
       subst hc
       rw [u8n (by omega)]
       omega
theorem dec_spell (u : Nat) : spell (Lib.decDigits u) = (u : Int) := by
 induction u using Nat.strongRecOn with
 | _ u ih =>
   by_cases h : u < 10
   · rw [Lib.decDigits_one h]
     simp only [spell, List.length_nil, Int.pow_zero]
     rw [u8n (by omega)]
     omega
   · rw [Lib.decDigits, dif_neg h, spell_append, ih (u / 10) (by omega)]
     simp only [spell, List.length_nil, List.length_singleton, Int.pow_zero]
     rw [u8n (by omega)]
     omega
theorem dec_head (u : Nat) (h : 1 ≤ u) : ∃ c r, Lib.decDigits u = c :: r ∧ c.toNat ≠ 48 := by
 induction u using Nat.strongRecOn with
 | _ u ih =>
   by_cases h9 : u < 10
   · refine ⟨_, _, Lib.decDigits_one h9, ?_⟩
     rw [u8n (by omega)]
     omega
   · obtain ⟨c, r, e, hc⟩ := ih (u / 10) (by omega) (by omega)
     rw [Lib.decDigits, dif_neg h9, e]
     exact ⟨c, _, rfl, hc⟩
def pad18 (u : Nat) : List UInt8 := List.replicate (18 - Lib.nDigits u) 48 ++ Lib.decDigits u
theorem pad_dig (u : Nat) : AllDig (pad18 u) := fun c hc => by
 unfold pad18 at hc
 rw [List.mem_append] at hc
 rcases hc with hc | hc
 · have := List.eq_of_mem_replicate hc
   subst this
   decide
 · exact dec_dig u c hc
theorem pad_spell (u : Nat) : spell (pad18 u) = (u : Int) := by
 unfold pad18
 rw [spell_append, spell_zeros (fun c hc => List.eq_of_mem_replicate hc), dec_spell]
 simp
theorem nd18 {u : Nat} (h : u < 1000000000000000000) : Lib.nDigits u ≤ 18 := by
 by_cases h0 : u = 0
 · subst h0; rw [Lib.nDigits_small (by decide)]; decide
 · apply Classical.byContradiction
   intro hc
   obtain ⟨c, r, e, hc0⟩ := dec_head u (by omega)
   have h1 := dec_spell u
   have hl := Lib.decDigits_length u
   rw [e] at h1 hl
   simp only [spell] at h1
   have hd := dec_dig u
   rw [e] at hd
   have h2 := spell_bd (l := r) fun x hx => hd x (by simp [hx])
   have h3 := hd c (by simp)
   simp at hl
   have h4 : (10 : Int) ^ 18 ≤ 10 ^ r.length := pow_mono' (by decide) (by omega)
   have h5 : (10 : Int) ^ 18 = 1000000000000000000 := by decide
   have h6 : (1 : Int) * 10 ^ r.length ≤ ((c.toNat : Int) - 48) * 10 ^ r.length := Int.mul_le_mul_of_nonneg_right (by omega) (by omega)
   omega
theorem pad_len {u : Nat} (h : u < 1000000000000000000) : (pad18 u).length = 18 := by
 have := nd18 h
 unfold pad18
 rw [List.length_append, List.length_replicate, Lib.decDigits_length]
 omega
def txt (xs : List Int) : Nat → List UInt8
 | 0 => Lib.decDigits (xs.getD (xs.length - 1) 0).toNat
 | i + 1 => txt xs i ++ pad18 (xs.getD (xs.length - 2 - i) 0).toNat
theorem txt_dig (xs : List Int) : ∀ i, AllDig (txt xs i)
 | 0 => dec_dig _
 | i + 1 => fun c hc => by
   rw [txt, List.mem_append] at hc
   rcases hc with hc | hc
   · exact txt_dig xs i c hc
   · exact pad_dig _ c hc
theorem txt_spell {xs : List Int} (hd : Dig B18 xs) : ∀ i, i < xs.length → spell (txt xs i) = val B18 (xs.drop (xs.length - 1 - i))
 | 0, hi => by
   have h0 := (hd (xs.length - 1)).1
   rw [txt, dec_spell, Nat.sub_zero, List.drop_eq_getElem_cons (by omega), List.drop_eq_nil_iff.2 (by omega)]
   rw [List.getD_eq_getElem?_getD, List.getElem?_eq_getElem (by omega)] at h0 ⊢
   simp only [Option.getD_some, val, Int.mul_zero, Int.add_zero] at h0 ⊢
   omega
 | i + 1, hi => by
   have h0 := hd (xs.length - 2 - i)
   rw [txt, spell_append, pad_spell, pad_len (by have := h0.2; rw [B18] at this; have := h0.1; omega), txt_spell hd i (by omega)]
   rw [show xs.length - 1 - (i + 1) = xs.length - 2 - i by omega, List.drop_eq_getElem_cons (i := xs.length - 2 - i) (by omega), show xs.length - 2 - i + 1 = xs.length - 1 - i by omega]
   rw [List.getD_eq_getElem?_getD, List.getElem?_eq_getElem (by omega)] at h0 ⊢
   simp only [Option.getD_some, val] at h0 ⊢
   rw [show (10 : Int) ^ 18 = B18 by decide, Int.mul_comm B18]
   omega
theorem txt_head {xs : List Int} (h : 1 ≤ (xs.getD (xs.length - 1) 0).toNat) : ∀ i, ∃ c r, txt xs i = c :: r ∧ c.toNat ≠ 48
 | 0 => dec_head _ h
 | i + 1 => by
   obtain ⟨c, r, e, hc⟩ := txt_head h i
   exact ⟨c, r ++ _, by rw [txt, e]; rfl, hc⟩
theorem text_show {neg : Bool} {xs ds : List Int} {z : Int} (hx : Sgn B18 neg xs z) (hd : Sgn 10 neg ds z) (h0 : 0 < xs.length) : showB neg ds = ⟨((if neg then [45] else []) ++ txt xs (xs.length - 1)).toArray⟩ := by
 have h1 := hx.canon.2 h0
 have h2 := (hx.canon.1 (xs.length - 1)).1
 obtain ⟨c, r, e, hc⟩ := txt_head (xs := xs) (by omega) (xs.length - 1)
 have h3 := txt_spell hx.canon.1 (xs.length - 1) (by omega)
 rw [Nat.sub_self, List.drop_zero] at h3
 have h4 := txt_dig xs (xs.length - 1)
 rw [e] at h3 h4 ⊢
 refine show_uniq h4 hc hd.canon ?_
 rw [h3, hx.abs (by decide), hd.abs (by decide)]
end
section
open Go Go.ChangeShapes Go.WideShapes Go.ChangeAt Go.RowKit Go.PlainAid
theorem builder_keep {B b : Nat} {p : Value} {bs : List Value} {w w' : World} (h : Lib.BuilderAt BT BE B b p bs w) (hb : Below w.heap.size w w') : Lib.BuilderAt BT BE B b p bs w' := by
 obtain ⟨h1, v, h2, h3, h4⟩ := h
 exact ⟨h1, v, (hb.block b (Array.getElem?_eq_some_iff.1 h2).1).trans h2, World.ownsRow.kept (row := Option.none) h3 ⟨hb.os, hb.tape, hb.output, hb.size, fun k hk _ => hb.block k hk⟩ (by cases v.ownBlock <;> simp), h4⟩
theorem bytes_str (l : List UInt8) (s : ByteArray) : Lib.byteCells l ++ Lib.strCells s = Lib.byteCells (l ++ s.data.toList) := by
 unfold Lib.byteCells Lib.strCells
 rw [List.map_append]
theorem txt_len {xs : List Int} (hd : Dig B18 xs) : ∀ i, (txt xs i).length ≤ 18 * (i + 1)
 | 0 => by
   have h := hd (xs.length - 1)
   rw [B18] at h
   rw [txt, Lib.decDigits_length]
   exact nd18 (by omega)
 | i + 1 => by
   have h := hd (xs.length - 2 - i)
   rw [B18] at h
   have := txt_len hd i
   rw [txt, List.length_append, pad_len (by omega)]
   omega
theorem zeros_ext {n : Nat} (h : n ≤ 18) : ((⟨#[48, 48, 48, 48, 48, 48, 48, 48, 48, 48, 48, 48, 48, 48, 48, 48, 48, 48]⟩ : ByteArray).extract n 18).data.toList = List.replicate (18 - n) 48 := by
 rw [← Lib.toList_data, Lib.extract_toList, show (⟨#[48, 48, 48, 48, 48, 48, 48, 48, 48, 48, 48, 48, 48, 48, 48, 48, 48, 48]⟩ : ByteArray).data.toList = List.replicate 18 48 from rfl, List.drop_replicate, List.take_replicate, Nat.min_self]
def textB (neg : Bool) (xs : List Int) : ByteArray := if xs.length = 0 then ⟨#[48]⟩ else ⟨((if neg then [45] else []) ++ txt xs (xs.length - 1)).toArray⟩
theorem text_any (neg : Bool) (u : Value) (xs : List Int) (z : Int) (w : World) (hr : Rd w u xs) (hs : Sgn B18 neg xs z) (hl : xs.length ≤ 30) (hP : P10 w) :
   Calls Tryz.prog 99 #[.agg #[.bool neg, u]] w (TextPost w (textB neg xs)) := by
 have HR := hid hr
 obtain ⟨p, c, rfl, _, _, hp⟩ := rd_form hr
 have HP1 := hid hp
 have HS := hid hs
 have HPT := hid hP
 clear hr hp hs hP
 go_enter Tryz.func99, Tryz.ntmps99
 go_wp2_with fail
 generalize hw2 : World.alloc w _ = w2
 have q0 : w2.cell? ⟨w.heap.size, 0, none⟩ = some (.bool neg) := by rw [← hw2]; simp
 have q1 : w2.cell? ⟨w.heap.size, 1, none⟩ = some (.slice p xs.length c) := by rw [← hw2]; simp
 have HB2 := hid (show Below w.heap.size w w2 by rw [← hw2]; exact (Below.refl _ _).alloc (Nat.le_refl _) _)
 clear hw2
 refine (good_yes _ _ xs _ w2 (HR.out.keep HB2.out) HS.out hl).mono ?_
 rintro e w3 ⟨rfl, hb3⟩
 have t0 := bcl hb3 q0
 have t1 := bcl hb3 q1
 have HB3 := hid (HB2.out.trans (hb3.mono HB2.out.size))
 clear q0 q1 hb3 HB2
 by_cases h0 : xs.length = 0
 · have hz : ((xs.length : Int) == 0) = true := by simp [h0]
   have HT := hid (show textB neg xs = ⟨#[48]⟩ by unfold textB; rw [if_pos h0])
   go_wp2_with fail
   go_ret
   exact ⟨by rw [HT.out]; rfl, HB3.out⟩
 · have hz : ((xs.length : Int) == 0) = false := by rw [beq_eq_false_iff_ne]; omega
   have HT := hid (show textB neg xs = ⟨((if neg then [45] else []) ++ txt xs (xs.length - 1)).toArray⟩ by unfold textB; rw [if_neg h0])
   obtain ⟨b, off, rfl, hcell⟩ := HP1.out (by omega)
   have HC := hid hcell
   have hn1 : 1 ≤ xs.length := by omega
   have t2 := bcl HB3.out (hcell (xs.length - 1) (by omega))
   have hd0 := HS.out.canon.1 (xs.length - 1)
   rw [B18] at hd0
   obtain ⟨t, ht⟩ : ∃ t : Nat, xs.getD (xs.length - 1) 0 = (t : Int) := ⟨(xs.getD (xs.length - 1) 0).toNat, by omega⟩
   have HT0 := hid (show txt xs 0 = Lib.decDigits t by rw [txt, ht]; rfl)
   rw [ht] at t2 hd0
   clear hcell HP1 ht
   have HP3 := hid (HPT.out.keep HB3.out)
   have hm1 := World.block_lt_of_cell? _ _ t1
   go_wp2_with fail
   refine (formatUint_any t (by omega) w3 HP3.out).mono ?_
   rintro e w4 ⟨rfl, hb4⟩
   have s0 := bcl hb4 t0
   have s1 := bcl hb4 t1
   have HB4 := hid (HB3.out.trans (hb4.mono HB3.out.size))
   have HP4 := hid (HP3.out.keep hb4)
   clear hb4 t0 t1 t2
   have hlt4 := World.block_lt_of_cell? _ _ s1
   have hnd0 := nd18 (u := t) (by omega)
   have hpl0 : (Lib.decDigits t).length = Lib.nDigits t := Lib.decDigits_length t
   have hcat : ¬ 9223372036854775807 < 1 + (Lib.decDigits t).length := by omega
   cases neg with
   | true =>
     go_wp2_with fail
     refine (writeString_any w4.heap.size w4.heap.size [] _ _ (Lib.fresh_isBuilder BT BE w4) (by rw [Lib.size_eq]; simp; omega) (by simp)).mono ?_
     rintro e w5 ⟨rfl, hBu, hb5⟩
     have HBU := hid (show Lib.BuilderAt BT BE w4.heap.size w4.heap.size (.pointer (some ⟨w4.heap.size, 0, none⟩)) (Lib.byteCells ([45] ++ txt xs 0)) w5 by rw [HT0.out]; simpa [Lib.strCells, Lib.byteCells] using hBu)
     have HB5 := hid (show Below w4.heap.size w4 w5 from ((Below.refl _ _).alloc (Nat.le_refl _) _).trans hb5)
     clear hBu hb5 HT0
     have s5 := bcl HB5.out s1
     go_wp2_with fail
     go_loopw [6, 7, 31] (fun _ _ iv wr => ∃ i : Nat, iv = .int .i64 i ∧ i ≤ xs.length - 1 ∧ Lib.BuilderAt BT BE w4.heap.size w4.heap.size (.pointer (some ⟨w4.heap.size, 0, none⟩)) (Lib.byteCells ([45] ++ txt xs i)) wr ∧ Below w4.heap.size w4 wr) (fun _ _ iv _ => xs.length - 1 - (intOf iv).toNat)
     case atStart => exact ⟨0, by go_num, by omega, HBU.out, HB5.out⟩
     case round =>
       obtain ⟨i, rfl, hi, hbu, hbw⟩ := hrel
       have HBI := hid hbu
       have HBW := hid hbw
       have hsz := hbw.size
       have s6 := bcl hbw s1
       have HLW := hid (HB4.out.trans (hbw.mono HB4.out.size))
       have HPW := hid (HP4.out.keep hbw)
       clear hbu hbw s5 s1 s0
       by_cases hi1 : i < xs.length - 1
       · have hiz : (i : Int) < (xs.length : Int) - 1 := by omega
         have ci := bcl HLW.out (HC.out (xs.length - 2 - i) (by omega))
         have hdv := HS.out.canon.1 (xs.length - 2 - i)
         rw [B18] at hdv
         obtain ⟨v, hv⟩ : ∃ v : Nat, xs.getD (xs.length - 2 - i) 0 = (v : Int) := ⟨(xs.getD (xs.length - 2 - i) 0).toNat, by omega⟩
         have HTN := hid (show txt xs (i + 1) = txt xs i ++ pad18 v by rw [txt, hv]; rfl)
         rw [hv] at ci hdv
         clear hv
         have hnd := nd18 (u := v) (by omega)
         have hpl : (Lib.decDigits v).length = Lib.nDigits v := Lib.decDigits_length v
         have hti : ((xs.length : Int) - 2 - (i : Int)).toNat = xs.length - 2 - i := by omega
         have hw1 : IntKind.i64.wrap ((xs.length : Int) - 2) = (xs.length : Int) - 2 := IntWalk.i64_in _ (by omega)
         have hw2 : IntKind.i64.wrap ((xs.length : Int) - 2 - (i : Int)) = (xs.length : Int) - 2 - (i : Int) := IntWalk.i64_in _ (by omega)
         have hw3 : (0 : Int) ≤ (xs.length : Int) - 2 - (i : Int) := by omega
         have hw4 : (xs.length : Int) - 2 - (i : Int) < (xs.length : Int) := by omega
         go_wp2_with fail
         refine (formatUint_any v (by omega) wr HPW.out).mono ?_
         rintro e w6 ⟨rfl, hb6⟩
         have HB6 := hid (HBW.out.trans (hb6.mono hsz))
         have HB6U := hid (builder_keep HBI.out hb6)
         have hz6 := hb6.size
         clear hb6 s6 ci
         have hps : (⟨(Lib.decDigits v).toArray⟩ : ByteArray).size = Lib.nDigits v := by rw [list_size, hpl]
         have hndz : ((Lib.nDigits v : Nat) : Int) ≤ 18 := by omega
         go_wp2_with fail
         have hzx := zeros_ext hnd
         have htl := txt_len HS.out.canon.1 i
         refine (writeString_any w4.heap.size w4.heap.size _ _ w6 (.inr HB6U.out) (by rw [Lib.byteCells_length, Lib.size_eq, hzx, List.length_replicate]; simp; omega) (by omega)).mono ?_
         rintro e w7 ⟨rfl, hBu, hb7⟩
         rw [bytes_str, hzx] at hBu
         have HB7U := hid hBu
         have HB7 := hid (HB6.out.trans hb7)
         have hz7 := hb7.size
         clear hBu hb7
         go_wp2_with fail
         refine (writeString_any w4.heap.size w4.heap.size _ _ w7 (.inr HB7U.out) (by rw [Lib.byteCells_length, hps]; simp; omega) (by omega)).mono ?_
         rintro e w8 ⟨rfl, hBu, hb8⟩
         rw [bytes_str] at hBu
         have HB8U := hid (show Lib.BuilderAt BT BE w4.heap.size w4.heap.size (.pointer (some ⟨w4.heap.size, 0, none⟩)) (Lib.byteCells ([45] ++ txt xs (i + 1))) w8 by
           rw [HTN.out]
           unfold pad18
           rw [← List.append_assoc, ← List.append_assoc]
           exact hBu)
         have HB8 := hid (HB7.out.trans hb8)
         clear hBu hb8
         go_wp2_with fail
         go_roundw
         case rel => exact ⟨i + 1, by go_num, by omega, HB8U.out, HB8.out⟩
         case measure => simp [intOf]; omega
       · obtain rfl : i = xs.length - 1 := by omega
         have hiz : ¬ (((xs.length - 1 : Nat) : Int) < (xs.length : Int) - 1) := by omega
         go_wp2_with fail
         refine (Tryz.Builder_String_any w4.heap.size w4.heap.size ([45] ++ txt xs (xs.length - 1)) wr (.inr HBI.out) (by omega)).mono ?_
         rintro e w9 ⟨rfl, hb9⟩
         have HB9 := hid (HLW.out.trans (hb9.mono (by have := HB4.out.size; omega)))
         clear hb9
         go_wp2_with fail
         go_ret
         exact ⟨by rw [HT.out]; rfl, HB9.out⟩
   | false =>
     go_wp2_with fail
     refine (writeString_any w4.heap.size w4.heap.size [] _ _ (Lib.fresh_isBuilder BT BE w4) (by rw [Lib.size_eq]; simp; omega) (by simp)).mono ?_
     rintro e w5 ⟨rfl, hBu, hb5⟩
     have HBU := hid (show Lib.BuilderAt BT BE w4.heap.size w4.heap.size (.pointer (some ⟨w4.heap.size, 0, none⟩)) (Lib.byteCells ([] ++ txt xs 0)) w5 by rw [HT0.out]; simpa [Lib.strCells, Lib.byteCells] using hBu)
     have HB5 := hid (show Below w4.heap.size w4 w5 from ((Below.refl _ _).alloc (Nat.le_refl _) _).trans hb5)
     clear hBu hb5 HT0
     have s5 := bcl HB5.out s1
     go_wp2_with fail
     go_loopw [6, 7, 31] (fun _ _ iv wr => ∃ i : Nat, iv = .int .i64 i ∧ i ≤ xs.length - 1 ∧ Lib.BuilderAt BT BE w4.heap.size w4.heap.size (.pointer (some ⟨w4.heap.size, 0, none⟩)) (Lib.byteCells ([] ++ txt xs i)) wr ∧ Below w4.heap.size w4 wr) (fun _ _ iv _ => xs.length - 1 - (intOf iv).toNat)
     case atStart => exact ⟨0, by go_num, by omega, HBU.out, HB5.out⟩
     case round =>
       obtain ⟨i, rfl, hi, hbu, hbw⟩ := hrel
       have HBI := hid hbu
       have HBW := hid hbw
       have hsz := hbw.size
       have s6 := bcl hbw s1
       have HLW := hid (HB4.out.trans (hbw.mono HB4.out.size))
       have HPW := hid (HP4.out.keep hbw)
       clear hbu hbw s5 s1 s0
       by_cases hi1 : i < xs.length - 1
       · have hiz : (i : Int) < (xs.length : Int) - 1 := by omega
         have ci := bcl HLW.out (HC.out (xs.length - 2 - i) (by omega))
         have hdv := HS.out.canon.1 (xs.length - 2 - i)
         rw [B18] at hdv
         obtain ⟨v, hv⟩ : ∃ v : Nat, xs.getD (xs.length - 2 - i) 0 = (v : Int) := ⟨(xs.getD (xs.length - 2 - i) 0).toNat, by omega⟩
         have HTN := hid (show txt xs (i + 1) = txt xs i ++ pad18 v by rw [txt, hv]; rfl)
         rw [hv] at ci hdv
         clear hv
         have hnd := nd18 (u := v) (by omega)
         have hpl : (Lib.decDigits v).length = Lib.nDigits v := Lib.decDigits_length v
         have hti : ((xs.length : Int) - 2 - (i : Int)).toNat = xs.length - 2 - i := by omega
         have hw1 : IntKind.i64.wrap ((xs.length : Int) - 2) = (xs.length : Int) - 2 := IntWalk.i64_in _ (by omega)
         have hw2 : IntKind.i64.wrap ((xs.length : Int) - 2 - (i : Int)) = (xs.length : Int) - 2 - (i : Int) := IntWalk.i64_in _ (by omega)
         have hw3 : (0 : Int) ≤ (xs.length : Int) - 2 - (i : Int) := by omega
         have hw4 : (xs.length : Int) - 2 - (i : Int) < (xs.length : Int) := by omega
         go_wp2_with fail
         refine (formatUint_any v (by omega) wr HPW.out).mono ?_
         rintro e w6 ⟨rfl, hb6⟩
         have HB6 := hid (HBW.out.trans (hb6.mono hsz))
         have HB6U := hid (builder_keep HBI.out hb6)
         have hz6 := hb6.size
         clear hb6 s6 ci
         have hps : (⟨(Lib.decDigits v).toArray⟩ : ByteArray).size = Lib.nDigits v := by rw [list_size, hpl]
         have hndz : ((Lib.nDigits v : Nat) : Int) ≤ 18 := by omega
         go_wp2_with fail
         have hzx := zeros_ext hnd
         have htl := txt_len HS.out.canon.1 i
         refine (writeString_any w4.heap.size w4.heap.size _ _ w6 (.inr HB6U.out) (by rw [Lib.byteCells_length, Lib.size_eq, hzx, List.length_replicate]; simp; omega) (by omega)).mono ?_
         rintro e w7 ⟨rfl, hBu, hb7⟩
         rw [bytes_str, hzx] at hBu
         have HB7U := hid hBu
         have HB7 := hid (HB6.out.trans hb7)
         have hz7 := hb7.size
         clear hBu hb7
         go_wp2_with fail
         refine (writeString_any w4.heap.size w4.heap.size _ _ w7 (.inr HB7U.out) (by rw [Lib.byteCells_length, hps]; simp; omega) (by omega)).mono ?_
         rintro e w8 ⟨rfl, hBu, hb8⟩
         rw [bytes_str] at hBu
         have HB8U := hid (show Lib.BuilderAt BT BE w4.heap.size w4.heap.size (.pointer (some ⟨w4.heap.size, 0, none⟩)) (Lib.byteCells ([] ++ txt xs (i + 1))) w8 by
           rw [HTN.out]
           unfold pad18
           rw [← List.append_assoc, ← List.append_assoc]
           exact hBu)
         have HB8 := hid (HB7.out.trans hb8)
         clear hBu hb8
         go_wp2_with fail
         go_roundw
         case rel => exact ⟨i + 1, by go_num, by omega, HB8U.out, HB8.out⟩
         case measure => simp [intOf]; omega
       · obtain rfl : i = xs.length - 1 := by omega
         have hiz : ¬ (((xs.length - 1 : Nat) : Int) < (xs.length : Int) - 1) := by omega
         go_wp2_with fail
         refine (Tryz.Builder_String_any w4.heap.size w4.heap.size ([] ++ txt xs (xs.length - 1)) wr (.inr HBI.out) (by omega)).mono ?_
         rintro e w9 ⟨rfl, hb9⟩
         have HB9 := hid (HLW.out.trans (hb9.mono (by have := HB4.out.size; omega)))
         clear hb9
         go_wp2_with fail
         go_ret
         exact ⟨by rw [HT.out]; rfl, HB9.out⟩
end
end Go.Proofs.YtlhfemgimieooaaGreatDoor
