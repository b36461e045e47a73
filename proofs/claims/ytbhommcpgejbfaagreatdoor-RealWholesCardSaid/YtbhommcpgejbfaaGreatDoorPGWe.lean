/- The builder of strings, as layer 2 uses it: writing a text to a builder of the call's own. Layer 2: the text of a small number. Layer 2: whole.Of: the number of an int. Layer 2: known(): the example that each statement asks first: it answers true. -/
import Derived.Test.YtbhommcpgejbfaaGreatDoorShelf
import Derived.Test.YtbhommcpgejbfaaGreatDoorPOwn
import Derived.Lib.AppendStr
import Derived.Laws.Externs
import Derived.ProofKit
import Derived.OpenShut
import Derived.OwnWalk
import Derived.Outline
import Derived.Lib.Hide
import Derived.WalkLawsBesides
import Derived.Lib.ItoaNum
import Derived.Test.YtbhommcpgejbfaaGreatDoorPGWc
import Derived.Test.YtbhommcpgejbfaaGreatDoorPGWd
namespace Go.Proofs.YtbhommcpgejbfaaGreatDoor
section
open Go.ChangeShapes Go.WideShapes Go.ChangeAt Go.RowKit
set_option linter.unusedVariables false
set_option linter.unusedSimpArgs false
abbrev BT : TypeId := 71
abbrev BE : TypeId := 5
theorem builderSize : (Tryz.prog.info? BT).map (·.size) = some 2 := by kernel_rfl
theorem builderLies : liesAt Tryz.prog Tryz.prog.depth BT (2 / Tryz.prog.cellsOf BT) 0 BT 1 = true := by kernel_rfl
theorem builderByte : (Tryz.prog.info? BE).map (fun i => (i.zero, i.size, i.bytes)) = some (some (.int .u8 0), 1, 1) := by kernel_rfl
theorem owned_form {w : World} {B : Nat} {e : TypeId} {v : Value} {n : Nat} {xs : List Value} (h : w.ownsRow B e 1 v n xs) : ∃ p m c, v = .slice p m c := by
  rcases h.2 with ⟨hv, _⟩ | ⟨g, cap, cur, hv, _⟩
  · exact ⟨_, _, _, hv⟩
  · exact ⟨_, _, _, hv⟩
set_option maxRecDepth 100000 in
set_option maxHeartbeats 400000 in
theorem copyCheck_fresh (b : Nat) (w : World) (h0 : w.cell? ⟨b, 0, none⟩ = some (.pointer none)) (hsh : w.shape? b = some (BT, 2)) (hf : w.frozen? ⟨b, 0, none⟩ = false) :
    Calls Tryz.prog 68 #[.pointer (some ⟨b, 0, none⟩)] w fun e w' => e = .returned (.tuple #[]) ∧ w.setCell ⟨b, 0, none⟩ (.pointer (some ⟨b, 0, none⟩)) = w' := by
  obtain ⟨j, hj, hjs⟩ := Option.map_eq_some_iff.1 builderSize
  have hto := Lib.run_to_unsafe w ⟨b, 0, none⟩ Tryz.underlying69 Tryz.underlying122 hj (by rw [hjs]; decide) hsh (Nat.zero_lt_succ 1)
  have hfrom := Lib.run_from_unsafe w ⟨b, 0, none⟩ Tryz.underlying122 Tryz.underlying69 hj hsh builderLies
  go_enter Tryz.func68, Tryz.ntmps68
  go_wp2
  rw [run_callFunc_extern Tryz.func91 (by kernel_rfl) (by kernel_rfl) (by kernel_rfl) (e := Extern.AbiNoEscape.same) (by kernel_rfl), Lib.run_noEscape]
  simp only [Result.andThen]
  rw [Oper.upon_value]
  go_wp2
  go_end0
  exact ⟨rfl, rfl⟩
set_option maxRecDepth 100000 in
set_option maxHeartbeats 400000 in
theorem copyCheck_used (b : Nat) (w : World) (h0 : w.cell? ⟨b, 0, none⟩ = some (.pointer (some ⟨b, 0, none⟩))) :
    Calls Tryz.prog 68 #[.pointer (some ⟨b, 0, none⟩)] w fun e w' => e = .returned (.tuple #[]) ∧ w = w' := by
  obtain ⟨j, hj, hjs⟩ := Option.map_eq_some_iff.1 builderSize
  have hne := Lib.run_neq_ptr_same w ⟨b, 0, none⟩ Tryz.underlying69 hj
  go_enter Tryz.func68, Tryz.ntmps68
  go_wp2
  go_end0
  exact ⟨rfl, rfl⟩
theorem copyCheck_any (B b : Nat) (bs : List Value) (w : World) (h : Lib.IsBuilder BT BE B b bs w) :
    Calls Tryz.prog 68 #[.pointer (some ⟨b, 0, none⟩)] w fun e w' => e = .returned (.tuple #[]) ∧ Lib.BuilderAt BT BE B b (.pointer (some ⟨b, 0, none⟩)) bs w' ∧ Below B w w' := by
  rcases h with h | h
  · refine (copyCheck_fresh b w h.cell0 h.shape h.frozen0).mono ?_
    rintro e w' ⟨rfl, rfl⟩
    exact ⟨rfl, h.used _, (Below.refl B w).setCell (p := ⟨b, 0, none⟩) h.1 _⟩
  · refine (copyCheck_used b w h.cell0).mono ?_
    rintro e w' ⟨rfl, rfl⟩
    exact ⟨rfl, h, Below.refl B w⟩
set_option maxRecDepth 100000 in
set_option maxHeartbeats 400000 in
theorem writeString_any (B b : Nat) (bs : List Value) (s : ByteArray) (w : World) (h : Lib.IsBuilder BT BE B b bs w) (hlen : bs.length + s.size ≤ 140737488355328) (hBw : B ≤ w.heap.size) :
    Calls Tryz.prog 39 #[.pointer (some ⟨b, 0, none⟩), .string s] w fun e w' => e = .returned (.tuple #[.int .i64 s.size, .nilIface]) ∧ Lib.BuilderAt BT BE B b (.pointer (some ⟨b, 0, none⟩)) (bs ++ Lib.strCells s) w' ∧ Below B w w' := by
  obtain ⟨i0, hi, hz0, hz1, hz2⟩ := info_parts builderByte
  go_enter Tryz.func39, Tryz.ntmps39
  go_wp2_with fail
  refine (copyCheck_any B b bs _ h).mono ?_
  rintro e w1 ⟨rfl, ⟨hB, v, hbk, hown, hne⟩, hb1⟩
  have hlt : b < w1.heap.size := (Array.getElem?_eq_some_iff.1 hbk).1
  have c0 : w1.cell? ⟨b, 0, none⟩ = some (.pointer (some ⟨b, 0, none⟩)) := by rw [Lib.cell_of_heap hbk]; rfl
  have c1 : w1.cell? ⟨b, 1, none⟩ = some v := by rw [Lib.cell_of_heap hbk]; rfl
  have HO := Lib.hid hown
  have HB := Lib.hid hbk
  have HN := Lib.hid hne
  have HB1 := Lib.hid hb1
  have hsz := hb1.size
  clear hown hbk hne hb1
  go_wp2_with (at_builtin; refine Lib.wpList_append_own_string _ rfl _ _ 48 9 rfl B BE i0 Tryz.underlying48 Tryz.underlying9 hi hz0 hz1 hz2 _ _ _ rfl HO.out s rfl (by unfold maxLen; omega) (by omega) (by omega) ?_; intro v' w2 hown' hgrow _; have hb2 : w2.heap[b]? = some (.cells #[.pointer (some ⟨b, 0, none⟩), v] BT (0, 0)) := (hgrow.block b hlt (fun e => HN.out e.symm)).trans HB.out; have d1 : w2.cell? ⟨b, 1, none⟩ = some v := (by rw [Lib.cell_of_heap hb2]; rfl); have f1 : w2.frozen? ⟨b, 1, none⟩ = false := Lib.frozen_of_heap hb2 1; obtain ⟨p', n', c', rfl⟩ := owned_form hown'; have HO2 := Lib.hid hown'; have HG := Lib.hid hgrow; have HB2 := Lib.hid hb2; clear hown' hgrow hb2)
  go_ret2
  refine ⟨rfl, ?_, ?_⟩
  · exact Lib.BuilderAt.put (T := BT) (e := BE) hB HB2.out (bs' := bs ++ Lib.strCells s) (by have := HO2.out; simpa [Lib.strCells_length] using this) (by decide)
  · exact (HB1.out.grown HG.out (by omega) (fun k hk => (World.ownsRow.lt HO.out k hk).1)).setCell (p := ⟨b, 1, none⟩) hB _
end
section
open Go.ChangeShapes Go.WideShapes Go.ChangeAt Go.RowKit
set_option linter.unusedVariables false
set_option linter.unusedSimpArgs false
set_option maxRecDepth 100000 in
set_option maxHeartbeats 400000 in
theorem formatUint_in (i : Nat) (h : i < 100) (w : World) :
    Calls Tryz.prog 67 #[.int .u64 (i : Int), .int .i64 10] w fun e w' => e = .returned (.string ⟨(Lib.decDigits i).toArray⟩) ∧ w = w' := by
  have hi : (i : Int) < 100 := by omega
  go_enter Tryz.func67, Tryz.ntmps67
  go_wp2_with fail
  refine (Tryz.internal_strconv_small i h _).mono ?_
  rintro e w' ⟨rfl, rfl⟩
  go_wp2_with fail
  go_ret
  exact ⟨rfl, rfl⟩
theorem formatUint_small (i : Nat) (h : i < 100) (w : World) :
    Calls Tryz.prog 38 #[.int .u64 (i : Int), .int .i64 10] w fun e w' => e = .returned (.string ⟨(Lib.decDigits i).toArray⟩) ∧ w = w' := by
  go_enter Tryz.func38, Tryz.ntmps38
  go_wp2_with fail
  refine (formatUint_in i h _).mono ?_
  rintro e w' ⟨rfl, rfl⟩
  go_wp2_with fail
  go_ret
  exact ⟨rfl, rfl⟩
def TextPost (W : World) (s : ByteArray) (e : Ending) (w' : World) : Prop := e = .returned (.string s) ∧ Below W.heap.size W w'
set_option maxRecDepth 100000 in
set_option maxHeartbeats 800000 in
theorem text_m4 (u : Value) (w : World) (hr : Rd w u [4]) :
    Calls Tryz.prog 12 #[.agg #[.bool true, u]] w (TextPost w ⟨#[45, 52]⟩) := by
  have HR := Lib.hid hr
  obtain ⟨p, c, rfl, _, _, hp⟩ := rd_form hr
  obtain ⟨b, off, rfl, hcell⟩ := hp (by simp)
  have hS : Sgn B18 true [(4 : Int)] (sg true 4) := by
    refine ⟨⟨fun i => ?_, fun _ => ?_⟩, fun _ => by simp, by simp [val]⟩
    · cases i with
      | zero => simp [B18]
      | succ i => simp [B18]
    · simp
  have HS := Lib.hid hS
  have hc0 := hcell 0 (by simp)
  simp only [List.length_singleton] at hr ⊢
  have e0 : ([(4 : Int)]).getD 0 0 = 4 := rfl
  rw [e0, Nat.add_zero] at hc0
  clear hcell hS hp e0
  go_enter Tryz.func12, Tryz.ntmps12
  go_wp2_with fail
  generalize hw2 : World.alloc w _ = w2
  have q0 : w2.cell? ⟨w.heap.size, 0, none⟩ = some (.bool true) := by rw [← hw2]; simp
  have q1 : w2.cell? ⟨w.heap.size, 1, none⟩ = some (.slice (some ⟨b, off, none⟩) 1 c) := by rw [← hw2]; simp
  have HB2 := Lib.hid (show Below w.heap.size w w2 by rw [← hw2]; exact (Below.refl _ _).alloc (Nat.le_refl _) _)
  clear hw2
  refine (good_yes _ _ [(4 : Int)] _ w2 (HR.out.keep HB2.out) HS.out (by simp)).mono ?_
  rintro e w3 ⟨rfl, hb3⟩
  have t0 := below_cell hb3 q0
  have t1 := below_cell hb3 q1
  have HB3 := Lib.hid (HB2.out.trans (hb3.mono HB2.out.size))
  have t2 := below_cell HB3.out hc0
  clear q0 q1 hb3 HB2 hc0
  go_wp2_with fail
  refine (formatUint_small 4 (by decide) _).mono ?_
  rintro e w4 ⟨rfl, rfl⟩
  rw [show (⟨(Lib.decDigits 4).toArray⟩ : ByteArray) = ⟨#[52]⟩ by simp [Lib.decDigits]]
  go_wp2_with fail
  refine (writeString_any w3.heap.size w3.heap.size [] ⟨#[45, 52]⟩ _ (Lib.fresh_isBuilder BT BE w3) (by decide) (by simp)).mono ?_
  rintro e w5 ⟨rfl, hBu, hb5⟩
  have HB5 := Lib.hid (HB3.out.trans (((Below.refl _ _).alloc (Nat.le_refl _) _).trans hb5 |>.mono HB3.out.size))
  have HBU := Lib.hid hBu
  have hs5 := hb5.size
  simp at hs5
  clear hBu hb5
  go_wp2_with fail
  go_loop [31] (fun s => s = .int .i64 0) (fun _ => 0)
  case atStart => rfl
  case round =>
    subst hrel
    go_wp2_with fail
    refine (Tryz.Builder_String_any w3.heap.size w3.heap.size [45, 52] w5 (.inr HBU.out) (by omega)).mono ?_
    rintro e w6 ⟨rfl, hb6⟩
    have HB6 := Lib.hid (HB5.out.trans (hb6.mono HB3.out.size))
    clear hb6
    go_wp2_with fail
    go_ret
    exact ⟨rfl, HB6.out⟩
set_option maxRecDepth 100000 in
set_option maxHeartbeats 800000 in
theorem text_1 (u : Value) (w : World) (hr : Rd w u [1]) :
    Calls Tryz.prog 12 #[.agg #[.bool false, u]] w (TextPost w ⟨#[49]⟩) := by
  have HR := Lib.hid hr
  obtain ⟨p, c, rfl, _, _, hp⟩ := rd_form hr
  obtain ⟨b, off, rfl, hcell⟩ := hp (by simp)
  have hS : Sgn B18 false [(1 : Int)] (sg false 1) := by
    refine ⟨⟨fun i => ?_, fun _ => ?_⟩, fun _ => by simp, by simp [val]⟩
    · cases i with
      | zero => simp [B18]
      | succ i => simp [B18]
    · simp
  have HS := Lib.hid hS
  have hc0 := hcell 0 (by simp)
  simp only [List.length_singleton] at hr ⊢
  have e0 : ([(1 : Int)]).getD 0 0 = 1 := rfl
  rw [e0, Nat.add_zero] at hc0
  clear hcell hS hp e0
  go_enter Tryz.func12, Tryz.ntmps12
  go_wp2_with fail
  generalize hw2 : World.alloc w _ = w2
  have q0 : w2.cell? ⟨w.heap.size, 0, none⟩ = some (.bool false) := by rw [← hw2]; simp
  have q1 : w2.cell? ⟨w.heap.size, 1, none⟩ = some (.slice (some ⟨b, off, none⟩) 1 c) := by rw [← hw2]; simp
  have HB2 := Lib.hid (show Below w.heap.size w w2 by rw [← hw2]; exact (Below.refl _ _).alloc (Nat.le_refl _) _)
  clear hw2
  refine (good_yes _ _ [(1 : Int)] _ w2 (HR.out.keep HB2.out) HS.out (by simp)).mono ?_
  rintro e w3 ⟨rfl, hb3⟩
  have t0 := below_cell hb3 q0
  have t1 := below_cell hb3 q1
  have HB3 := Lib.hid (HB2.out.trans (hb3.mono HB2.out.size))
  have t2 := below_cell HB3.out hc0
  clear q0 q1 hb3 HB2 hc0
  go_wp2_with fail
  refine (formatUint_small 1 (by decide) _).mono ?_
  rintro e w4 ⟨rfl, rfl⟩
  rw [show (⟨(Lib.decDigits 1).toArray⟩ : ByteArray) = ⟨#[49]⟩ by simp [Lib.decDigits]]
  go_wp2_with fail
  refine (writeString_any w3.heap.size w3.heap.size [] ⟨#[49]⟩ _ (Lib.fresh_isBuilder BT BE w3) (by decide) (by simp)).mono ?_
  rintro e w5 ⟨rfl, hBu, hb5⟩
  have HB5 := Lib.hid (HB3.out.trans (((Below.refl _ _).alloc (Nat.le_refl _) _).trans hb5 |>.mono HB3.out.size))
  have HBU := Lib.hid hBu
  have hs5 := hb5.size
  simp at hs5
  clear hBu hb5
  go_wp2_with fail
  go_loop [31] (fun s => s = .int .i64 0) (fun _ => 0)
  case atStart => rfl
  case round =>
    subst hrel
    go_wp2_with fail
    refine (Tryz.Builder_String_any w3.heap.size w3.heap.size [49] w5 (.inr HBU.out) (by omega)).mono ?_
    rintro e w6 ⟨rfl, hb6⟩
    have HB6 := Lib.hid (HB5.out.trans (hb6.mono HB3.out.size))
    clear hb6
    go_wp2_with fail
    go_ret
    exact ⟨rfl, HB6.out⟩
end
section
open Go.ChangeShapes Go.WideShapes Go.ChangeAt Go.RowKit
set_option linter.unusedVariables false
set_option linter.unusedSimpArgs false
theorem two_limbs (a : Int) (h : 0 ≤ a) (h' : a ≤ 18446744073709551615) : Dig B18 [a % 1000000000000000000, a / 1000000000000000000] ∧ val B18 [a % 1000000000000000000, a / 1000000000000000000] = a := by
  refine ⟨Dig.cons (by rw [B18]; omega) (Dig.cons (by rw [B18]; omega) (Dig.nil (by decide))), ?_⟩
  simp only [val, B18]; omega
theorem LU.two (w : World) (a b : Int) : LU (w.alloc (.cells #[.int .u64 a, .int .u64 b] 22)) w.heap.size [a, b] := heap_alloc_new w _
theorem of_core (neg : Bool) (a : Int) (h0 : 0 ≤ a) (h1 : a ≤ 18446744073709551615) (w : World) (k : Nat) (hk : CutAt [a % 1000000000000000000, a / 1000000000000000000] k) {g B0 : Nat} (hL : LU w g [a % 1000000000000000000, a / 1000000000000000000]) (hB : B0 ≤ g) :
    ∃ neg' p ws', madeV neg (some ⟨g, 0, none⟩) k = .agg #[.bool neg', .slice p k k] ∧ (∀ w' : World, w'.heap[g]? = w.heap[g]? → MU w' B0 (.slice p k k) ws') ∧ Sgn B18 neg' ws' (sg neg a) ∧ ws'.length = k := by
  obtain ⟨hd, hv⟩ := two_limbs a h0 h1
  have := made_sgn neg hk hd hL hB
  rw [hv] at this
  exact this
set_option maxRecDepth 100000 in
set_option maxHeartbeats 800000 in
theorem of_pos (n : Int) (w : World) (h0 : 0 ≤ n) (h1 : n ≤ 9223372036854775807) :
    Calls Tryz.prog 27 #[.int .i64 n] w (BigPost w w.heap.size n) := by
  have hn : ¬ n < 0 := by omega
  go_enter Tryz.func27, Tryz.ntmps27
  go_wp2_with fail
  generalize hw2 : World.alloc (World.alloc w _) _ = w2
  have hL : LU w2 (w.heap.size + 1) [n % 1000000000000000000, n / 1000000000000000000] := by
    rw [← hw2]
    have := LU.two (w.alloc (.cells #[.bool false, .slice none 0 0] 25)) (n % 1000000000000000000) (n / 1000000000000000000)
    simpa using this
  have HL := Lib.hid hL
  have HB2 := Lib.hid (show Below w.heap.size w w2 by rw [← hw2]; exact ((Below.refl _ _).alloc (Nat.le_refl _) _).alloc (by simp) _)
  have q0 : w2.cell? ⟨w.heap.size, 0, none⟩ = some (.bool false) := by rw [← hw2]; exact alloc_cell (by simp) _
  have q1 : w2.cell? ⟨w.heap.size, 1, none⟩ = some (.slice none 0 0) := by rw [← hw2]; exact alloc_cell (by simp) _
  have f0 : w2.frozen? ⟨w.heap.size, 0, none⟩ = false := by rw [← hw2]; exact alloc_frozen (by simp) (by simp) _
  have f1 : w2.frozen? ⟨w.heap.size, 1, none⟩ = false := by rw [← hw2]; exact alloc_frozen (by simp) (by simp) _
  have hlt : w.heap.size < w2.heap.size := by rw [← hw2]; simp; omega
  clear hw2 hL
  refine (made_any false _ 2 [n % 1000000000000000000, n / 1000000000000000000] w2 ((HL.out.mine (Nat.zero_le _)).rd (by simp))).mono ?_
  rintro e w3 ⟨k, hk, rfl, hb3⟩
  obtain ⟨neg', p, ws', hv, hM, hS, hlk⟩ := of_core (B0 := w.heap.size + 1) false n (by omega) (by omega) w3 k hk (HL.out.keep hb3) (Nat.le_refl _)
  rw [hv]
  have HM := Lib.hid (hM w3 rfl)
  have HS := Lib.hid hS
  have HB3 := Lib.hid (HB2.out.trans (hb3.mono HB2.out.size))
  have m0 := below_cell hb3 q0
  have m1 := below_cell hb3 q1
  have mf0 := (hb3.frozen (p := ⟨w.heap.size, 0, none⟩) hlt).trans f0
  have mf1 := (hb3.frozen (p := ⟨w.heap.size, 1, none⟩) hlt).trans f1
  clear hv hM hS hlk hb3 hk q0 q1 f0 f1
  go_wp2_with fail
  have zz := two_setW (x0 := .bool neg') (x1 := .slice p k k) m0 m1
  exact bodyPost_ret (v := .agg #[.bool neg', .slice p k k]) (by simp [results, Tryz.results27, go_sem, zz.1, zz.2]) rfl ⟨neg', _, ws', rfl, (HM.out.set2 (by omega) _ _).low (by omega), HS.out, (HB3.out.setCell (by simp) _).setCell (by simp) _⟩
set_option maxRecDepth 100000 in
set_option maxHeartbeats 800000 in
theorem of_neg (n : Int) (w : World) (h0 : n < 0) (h1 : -9223372036854775808 ≤ n) :
    Calls Tryz.prog 27 #[.int .i64 n] w (BigPost w w.heap.size n) := by
  obtain ⟨m, hm, hm0, hm1, hnm⟩ : ∃ m : Int, IntKind.u64.wrap (-IntKind.u64.wrap n) = m ∧ 0 ≤ m ∧ m ≤ 9223372036854775808 ∧ n = -m := by
    refine ⟨-n, ?_, by omega, by omega, by omega⟩
    rw [u64w, u64w]; omega
  have HN := Lib.hid hnm
  clear hnm
  go_enter Tryz.func27, Tryz.ntmps27
  go_wp2_with fail
  clear hm
  generalize hw2 : World.alloc (World.alloc w _) _ = w2
  have hL : LU w2 (w.heap.size + 1) [m % 1000000000000000000, m / 1000000000000000000] := by
    rw [← hw2]
    have := LU.two (w.alloc (.cells #[.bool false, .slice none 0 0] 25)) (m % 1000000000000000000) (m / 1000000000000000000)
    simpa using this
  have HL := Lib.hid hL
  have HB2 := Lib.hid (show Below w.heap.size w w2 by rw [← hw2]; exact ((Below.refl _ _).alloc (Nat.le_refl _) _).alloc (by simp) _)
  have q0 : w2.cell? ⟨w.heap.size, 0, none⟩ = some (.bool false) := by rw [← hw2]; exact alloc_cell (by simp) _
  have q1 : w2.cell? ⟨w.heap.size, 1, none⟩ = some (.slice none 0 0) := by rw [← hw2]; exact alloc_cell (by simp) _
  have f0 : w2.frozen? ⟨w.heap.size, 0, none⟩ = false := by rw [← hw2]; exact alloc_frozen (by simp) (by simp) _
  have f1 : w2.frozen? ⟨w.heap.size, 1, none⟩ = false := by rw [← hw2]; exact alloc_frozen (by simp) (by simp) _
  have hlt : w.heap.size < w2.heap.size := by rw [← hw2]; simp; omega
  clear hw2 hL
  refine (made_any true _ 2 [m % 1000000000000000000, m / 1000000000000000000] w2 ((HL.out.mine (Nat.zero_le _)).rd (by simp))).mono ?_
  rintro e w3 ⟨k, hk, rfl, hb3⟩
  obtain ⟨neg', p, ws', hv, hM, hS, hlk⟩ := of_core (B0 := w.heap.size + 1) true m (by omega) (by omega) w3 k hk (HL.out.keep hb3) (Nat.le_refl _)
  rw [hv]
  have HM := Lib.hid (hM w3 rfl)
  have HS := Lib.hid hS
  have HB3 := Lib.hid (HB2.out.trans (hb3.mono HB2.out.size))
  have m0 := below_cell hb3 q0
  have m1 := below_cell hb3 q1
  have mf0 := (hb3.frozen (p := ⟨w.heap.size, 0, none⟩) hlt).trans f0
  have mf1 := (hb3.frozen (p := ⟨w.heap.size, 1, none⟩) hlt).trans f1
  clear hv hM hS hlk hb3 hk q0 q1 f0 f1
  go_wp2_with fail
  have zz := two_setW (x0 := .bool neg') (x1 := .slice p k k) m0 m1
  exact bodyPost_ret (v := .agg #[.bool neg', .slice p k k]) (by simp [results, Tryz.results27, go_sem, zz.1, zz.2]) rfl ⟨neg', _, ws', rfl, (HM.out.set2 (by omega) _ _).low (by omega), by rw [HN.out]; exact HS.out, (HB3.out.setCell (by simp) _).setCell (by simp) _⟩
theorem of_int (n : Int) (w : World) (h0 : -9223372036854775808 ≤ n) (h1 : n ≤ 9223372036854775807) :
    Calls Tryz.prog 27 #[.int .i64 n] w (BigPost w w.heap.size n) := by
  by_cases h : n < 0
  · exact of_neg n w h h0
  · exact of_pos n w (by omega) h1
end
section
open Go.ChangeShapes Go.WideShapes Go.ChangeAt Go.RowKit
set_option linter.unusedVariables false
set_option linter.unusedSimpArgs false
theorem sgn4 : Sgn B18 true [4] (-4) := ⟨canon_d ⟨by decide, by decide⟩, fun _ => by simp, by simp [sg, val]⟩
theorem sgn1 : Sgn B18 false [1] 1 := ⟨canon_d ⟨by decide, by decide⟩, fun h => (by cases h), by simp [sg, val]⟩
end
end Go.Proofs.YtbhommcpgejbfaaGreatDoor
