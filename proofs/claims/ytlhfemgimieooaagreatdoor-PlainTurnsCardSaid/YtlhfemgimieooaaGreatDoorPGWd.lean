/- Layer 2: whole.DivMod, over what divSizes answers. -/
import Derived.Test.YtlhfemgimieooaaGreatDoorPGWc
import Derived.Deep.DeepCutAuto
import Derived.Test.YtlhfemgimieooaaGreatDoorPGWa
import Derived.BigQuiet
import Derived.Test.YtlhfemgimieooaaGreatDoorShelf
import Derived.Shelf.Spec.BitsCarry
import Derived.Lib.AppendStr
import Derived.Laws.Externs
import Derived.ProofKit
import Derived.OpenShut
import Derived.OwnWalk
import Derived.Outline
import Derived.Lib.Hide
import Derived.WalkLawsBesides
import Derived.Lib.ItoaNum
set_option linter.unusedVariables false
set_option linter.unusedSimpArgs false
set_option maxRecDepth 100000
set_option maxHeartbeats 800000
namespace Go.Proofs.YtlhfemgimieooaaGreatDoor
open Go.Lib (hid)
open Go.ChangeShapes Go.WideShapes Go.ChangeAt Go.RowKit
section
end
section
structure Box2 (w : World) (B : Nat) (a b : Value) : Prop where
 c0 : w.cell? ⟨B, 0, none⟩ = some a
 c1 : w.cell? ⟨B, 1, none⟩ = some b
 f0 : w.frozen? ⟨B, 0, none⟩ = false
 f1 : w.frozen? ⟨B, 1, none⟩ = false
theorem Box2.lt {w : World} {B : Nat} {a b : Value} (h : Box2 w B a b) : B < w.heap.size := World.block_lt_of_cell? w ⟨B, 0, none⟩ h.c0
theorem Box2.new (X : World) (a b : Value) (T : TypeId) {B : Nat} (e : B = X.heap.size) : Box2 (X.alloc (.cells #[a, b] T)) B a b := by
 subst e; exact ⟨by simp, by simp, by simp, by simp⟩
theorem Box2.keep {w w' : World} {B : Nat} {a b : Value} (h : Box2 w B a b) (hb : Below w.heap.size w w') : Box2 w' B a b :=
 ⟨(World.cell?_of_block (a := ⟨B, 0, none⟩) (hb.block B h.lt)).trans h.c0, (World.cell?_of_block (a := ⟨B, 1, none⟩) (hb.block B h.lt)).trans h.c1,
   (World.frozen?_of_block (a := ⟨B, 0, none⟩) (hb.block B h.lt)).trans h.f0, (World.frozen?_of_block (a := ⟨B, 1, none⟩) (hb.block B h.lt)).trans h.f1⟩
theorem Box2.alloc {w : World} {B : Nat} {a b : Value} (h : Box2 w B a b) (o : Obj) : Box2 (w.alloc o) B a b := h.keep ((Below.refl _ _).alloc (Nat.le_refl _) o)
theorem Box2.put {w : World} {B : Nat} {a b : Value} (x y : Value) (h : Box2 w B a b) : Box2 ((w.setCell ⟨B, 0, none⟩ x).setCell ⟨B, 1, none⟩ y) B x y :=
 ⟨(two_setW h.c0 h.c1).1, (two_setW h.c0 h.c1).2, by simp [h.f0], by simp [h.f1]⟩
theorem Box2.set2 {w : World} {B C : Nat} {a b : Value} (hn : B ≠ C) (x y : Value) (h : Box2 w B a b) : Box2 ((w.setCell ⟨C, 0, none⟩ x).setCell ⟨C, 1, none⟩ y) B a b :=
 ⟨cell_set2 hn h.c0 x y, cell_set2 hn h.c1 x y, by simp [h.f0], by simp [h.f1]⟩
theorem Box2.all {w : World} {B : Nat} {a b : Value} (h : Box2 w B a b) : w.cell? ⟨B, 0, none⟩ = some a ∧ w.cell? ⟨B, 1, none⟩ = some b ∧ w.frozen? ⟨B, 0, none⟩ = false ∧ w.frozen? ⟨B, 1, none⟩ = false ∧ B < w.heap.size ∧ B < w.heap.size + 1 ∧ B ≠ w.heap.size ∧ B ≠ w.heap.size + 1 :=
 ⟨h.c0, h.c1, h.f0, h.f1, h.lt, Nat.lt_succ_of_lt h.lt, Nat.ne_of_lt h.lt, Nat.ne_of_lt (Nat.lt_succ_of_lt h.lt)⟩
theorem Box2.drew {w : World} {B : Nat} {a b : Value} (h : Box2 w B a b) : Box2 w.drew B a b := ⟨h.c0, h.c1, h.f0, h.f1⟩
theorem Box2.put0 {w : World} {B : Nat} (x y : Value) (h : Box2 w B (.bool false) (.slice none 0 0)) : Box2 ((w.setCell ⟨B, 0, none⟩ x).setCell ⟨B, 1, none⟩ y) B x y := h.put x y
end
section
end
section
theorem drew_cell {W : World} {a : Addr} {v : Value} (h : W.cell? a = some v) : W.drew.cell? a = some v := h
end
section
end
section
theorem add64_run (x y c : Nat) (hc : c ≤ 1) (w : World) :
   (callFunc 170 #[.int .u64 x, .int .u64 y, .int .u64 c]).run Tryz.prog w =
     .ok (.value (.tuple #[.int .u64 (((x + y + c) % 18446744073709551616 : Nat) : Int), .int .u64 (((x + y + c) / 18446744073709551616 : Nat) : Int)])) w := by
 rw [run_callFunc_extern Tryz.func170 (by kernel_rfl) (by kernel_rfl) (by kernel_rfl) (e := add64Entry) (by kernel_rfl), run_add64 x y c (by omega) (by omega) (by omega) (by omega)]
 simp only [Result.andThen]
 congr 5 <;> omega
theorem add64_at (x y : Int) (hx : 0 ≤ x ∧ x ≤ 18446744073709551615) (hy : 0 ≤ y ∧ y ≤ 18446744073709551615) (w : World) :
   ∃ lo c : Int, Sem.run Tryz.prog (callFunc 170 #[.int .u64 x, .int .u64 y, .int .u64 0]) w = .ok (.value (.tuple #[.int .u64 lo, .int .u64 c])) w ∧ c * 18446744073709551616 + lo = x + y ∧ 0 ≤ lo ∧ lo ≤ 18446744073709551615 ∧ 0 ≤ c ∧ c ≤ 1 := by
 obtain ⟨x, rfl⟩ := Int.eq_ofNat_of_zero_le hx.1
 obtain ⟨y, rfl⟩ := Int.eq_ofNat_of_zero_le hy.1
 exact ⟨_, _, add64_run x y 0 (by omega) w, by omega, by omega, by omega, by omega, by omega⟩
end
section
end
section
end
section
abbrev BT : TypeId := 80
abbrev BE : TypeId := 5
theorem builderSize : (Tryz.prog.info? BT).map (·.size) = some 2 := by kernel_rfl
theorem builderLies : liesAt Tryz.prog Tryz.prog.depth BT (2 / Tryz.prog.cellsOf BT) 0 BT 1 = true := by kernel_rfl
theorem builderByte : (Tryz.prog.info? BE).map (fun i => (i.zero, i.size, i.bytes)) = some (some (.int .u8 0), 1, 1) := by kernel_rfl
theorem owned_form {w : World} {B : Nat} {e : TypeId} {v : Value} {n : Nat} {xs : List Value} (h : w.ownsRow B e 1 v n xs) : ∃ p m c, v = .slice p m c := by
 rcases h.2 with ⟨hv, _⟩ | ⟨g, cap, cur, hv, _⟩
 · exact ⟨_, _, _, hv⟩
 · exact ⟨_, _, _, hv⟩
theorem copyCheck_fresh (b : Nat) (w : World) (h0 : w.cell? ⟨b, 0, none⟩ = some (.pointer none)) (hsh : w.shape? b = some (BT, 2)) (hf : w.frozen? ⟨b, 0, none⟩ = false) :
   Calls Tryz.prog 101 #[.pointer (some ⟨b, 0, none⟩)] w fun e w' => e = .returned (.tuple #[]) ∧ w.setCell ⟨b, 0, none⟩ (.pointer (some ⟨b, 0, none⟩)) = w' := by
 obtain ⟨j, hj, hjs⟩ := Option.map_eq_some_iff.1 builderSize
 have hto := Lib.run_to_unsafe w ⟨b, 0, none⟩ Tryz.underlying78 Tryz.underlying167 hj (by rw [hjs]; decide) hsh (Nat.zero_lt_succ 1)
 have hfrom := Lib.run_from_unsafe w ⟨b, 0, none⟩ Tryz.underlying167 Tryz.underlying78 hj hsh builderLies
 go_enter Tryz.func101, Tryz.ntmps101
 go_wp2
 rw [run_callFunc_extern Tryz.func141 (by kernel_rfl) (by kernel_rfl) (by kernel_rfl) (e := Extern.AbiNoEscape.same) (by kernel_rfl), Lib.run_noEscape]
 simp only [Result.andThen]
 rw [Oper.upon_value]
 go_wp2
 go_end0
 exact ⟨rfl, rfl⟩
theorem copyCheck_used (b : Nat) (w : World) (h0 : w.cell? ⟨b, 0, none⟩ = some (.pointer (some ⟨b, 0, none⟩))) :
   Calls Tryz.prog 101 #[.pointer (some ⟨b, 0, none⟩)] w fun e w' => e = .returned (.tuple #[]) ∧ w = w' := by
 obtain ⟨j, hj, hjs⟩ := Option.map_eq_some_iff.1 builderSize
 have hne := Lib.run_neq_ptr_same w ⟨b, 0, none⟩ Tryz.underlying78 hj
 go_enter Tryz.func101, Tryz.ntmps101
 go_wp2
 go_end0
 exact ⟨rfl, rfl⟩
theorem copyCheck_any (B b : Nat) (bs : List Value) (w : World) (h : Lib.IsBuilder BT BE B b bs w) :
   Calls Tryz.prog 101 #[.pointer (some ⟨b, 0, none⟩)] w fun e w' => e = .returned (.tuple #[]) ∧ Lib.BuilderAt BT BE B b (.pointer (some ⟨b, 0, none⟩)) bs w' ∧ Below B w w' := by
 rcases h with h | h
 · refine (copyCheck_fresh b w h.cell0 h.shape h.frozen0).mono ?_
   rintro e w' ⟨rfl, rfl⟩
   exact ⟨rfl, h.used _, (Below.refl B w).setCell (p := ⟨b, 0, none⟩) h.1 _⟩
 · refine (copyCheck_used b w h.cell0).mono ?_
   rintro e w' ⟨rfl, rfl⟩
   exact ⟨rfl, h, Below.refl B w⟩
theorem writeString_any (B b : Nat) (bs : List Value) (s : ByteArray) (w : World) (h : Lib.IsBuilder BT BE B b bs w) (hlen : bs.length + s.size ≤ 140737488355328) (hBw : B ≤ w.heap.size) :
   Calls Tryz.prog 53 #[.pointer (some ⟨b, 0, none⟩), .string s] w fun e w' => e = .returned (.tuple #[.int .i64 s.size, .nilIface]) ∧ Lib.BuilderAt BT BE B b (.pointer (some ⟨b, 0, none⟩)) (bs ++ Lib.strCells s) w' ∧ Below B w w' := by
 obtain ⟨i0, hi, hz0, hz1, hz2⟩ := info_parts builderByte
 go_enter Tryz.func53, Tryz.ntmps53
 go_wp2_with fail
 refine (copyCheck_any B b bs _ h).mono ?_
 rintro e w1 ⟨rfl, ⟨hB, v, hbk, hown, hne⟩, hb1⟩
 have hlt : b < w1.heap.size := (Array.getElem?_eq_some_iff.1 hbk).1
 have c0 : w1.cell? ⟨b, 0, none⟩ = some (.pointer (some ⟨b, 0, none⟩)) := by rw [Lib.cell_of_heap hbk]; rfl
 have c1 : w1.cell? ⟨b, 1, none⟩ = some v := by rw [Lib.cell_of_heap hbk]; rfl
 have HO := hid hown
 have HB := hid hbk
 have HN := hid hne
 have HB1 := hid hb1
 have hsz := hb1.size
 clear hown hbk hne hb1
 go_wp2_with (at_builtin; refine Lib.wpList_append_own_string _ rfl _ _ 43 9 rfl B BE i0 Tryz.underlying43 Tryz.underlying9 hi hz0 hz1 hz2 _ _ _ rfl HO.out s rfl (by unfold maxLen; omega) (by omega) (by omega) ?_; intro v' w2 hown' hgrow _; have hb2 : w2.heap[b]? = some (.cells #[.pointer (some ⟨b, 0, none⟩), v] BT (0, 0)) := (hgrow.block b hlt (fun e => HN.out e.symm)).trans HB.out; have d1 : w2.cell? ⟨b, 1, none⟩ = some v := (by rw [Lib.cell_of_heap hb2]; rfl); have f1 : w2.frozen? ⟨b, 1, none⟩ = false := Lib.frozen_of_heap hb2 1; obtain ⟨p', n', c', rfl⟩ := owned_form hown'; have HO2 := hid hown'; have HG := hid hgrow; have HB2 := hid hb2; clear hown' hgrow hb2)
 go_ret2
 refine ⟨rfl, ?_, ?_⟩
 · exact Lib.BuilderAt.put (T := BT) (e := BE) hB HB2.out (bs' := bs ++ Lib.strCells s) (by have := HO2.out; simpa [Lib.strCells_length] using this) (by decide)
 · exact (HB1.out.grown HG.out (by omega) (fun k hk => (World.ownsRow.lt HO.out k hk).1)).setCell (p := ⟨b, 1, none⟩) hB _
end
section
theorem formatUint_in (i : Nat) (h : i < 100) (w : World) :
   Calls Tryz.prog 165 #[.int .u64 (i : Int), .int .i64 10] w fun e w' => e = .returned (.string ⟨(Lib.decDigits i).toArray⟩) ∧ w = w' := by
 have hi : (i : Int) < 100 := by omega
 go_enter Tryz.func165, Tryz.ntmps165
 go_wp2_with fail
 refine (Tryz.internal_strconv_small i h _).mono ?_
 rintro e w' ⟨rfl, rfl⟩
 go_wp2_with fail
 go_ret
 exact ⟨rfl, rfl⟩
def TextPost (W : World) (s : ByteArray) (e : Ending) (w' : World) : Prop := e = .returned (.string s) ∧ Below W.heap.size W w'
end
section
theorem two_limbs (a : Int) (h : 0 ≤ a) (h' : a ≤ 18446744073709551615) : Dig B18 [a % 1000000000000000000, a / 1000000000000000000] ∧ val B18 [a % 1000000000000000000, a / 1000000000000000000] = a := by
 refine ⟨Dig.cons (by rw [B18]; omega) (Dig.cons (by rw [B18]; omega) (Dig.nil (by decide))), ?_⟩
 simp only [val, B18]; omega
theorem LU.two (w : World) (a b : Int) : LU (w.alloc (.cells #[.int .u64 a, .int .u64 b] 25)) w.heap.size [a, b] := heap_alloc_new w _
theorem of_core (neg : Bool) (a : Int) (h0 : 0 ≤ a) (h1 : a ≤ 18446744073709551615) (w : World) (k : Nat) (hk : CutAt [a % 1000000000000000000, a / 1000000000000000000] k) {g B0 : Nat} (hL : LU w g [a % 1000000000000000000, a / 1000000000000000000]) (hB : B0 ≤ g) :
   ∃ neg' p ws', madeV neg (some ⟨g, 0, none⟩) k = .agg #[.bool neg', .slice p k k] ∧ (∀ w' : World, w'.heap[g]? = w.heap[g]? → MU w' B0 (.slice p k k) ws') ∧ Sgn B18 neg' ws' (sg neg a) ∧ ws'.length = k := by
 obtain ⟨hd, hv⟩ := two_limbs a h0 h1
 have := made_sgn neg hk hd hL hB
 rw [hv] at this
 exact this
theorem of_pos (n : Int) (w : World) (h0 : 0 ≤ n) (h1 : n ≤ 9223372036854775807) :
   Calls Tryz.prog 65 #[.int .i64 n] w (BigPost w w.heap.size n) := by
 have hn : ¬ n < 0 := by omega
 go_enter Tryz.func65, Tryz.ntmps65
 go_wp2_with fail
 generalize hw2 : World.alloc (World.alloc w _) _ = w2
 have hL : LU w2 (w.heap.size + 1) [n % 1000000000000000000, n / 1000000000000000000] := by
   rw [← hw2]
   have := LU.two (w.alloc (.cells #[.bool false, .slice none 0 0] 24)) (n % 1000000000000000000) (n / 1000000000000000000)
   simpa using this
 have HL := hid hL
 have HB2 := hid (show Below w.heap.size w w2 by rw [← hw2]; exact ((Below.refl _ _).alloc (Nat.le_refl _) _).alloc (by simp) _)
 have q0 : w2.cell? ⟨w.heap.size, 0, none⟩ = some (.bool false) := by rw [← hw2]; exact acl (by simp) _
 have q1 : w2.cell? ⟨w.heap.size, 1, none⟩ = some (.slice none 0 0) := by rw [← hw2]; exact acl (by simp) _
 have f0 : w2.frozen? ⟨w.heap.size, 0, none⟩ = false := by rw [← hw2]; exact alloc_frozen (by simp) (by simp) _
 have f1 : w2.frozen? ⟨w.heap.size, 1, none⟩ = false := by rw [← hw2]; exact alloc_frozen (by simp) (by simp) _
 have hlt : w.heap.size < w2.heap.size := by rw [← hw2]; simp; omega
 clear hw2 hL
 refine (made_any false _ 2 [n % 1000000000000000000, n / 1000000000000000000] w2 ((HL.out.mine (Nat.zero_le _)).rd (by simp))).mono ?_
 rintro e w3 ⟨k, hk, rfl, hb3⟩
 obtain ⟨neg', p, ws', hv, hM, hS, hlk⟩ := of_core (B0 := w.heap.size + 1) false n (by omega) (by omega) w3 k hk (HL.out.keep hb3) (Nat.le_refl _)
 rw [hv]
 have HM := hid (hM w3 rfl)
 have HS := hid hS
 have HB3 := hid (HB2.out.trans (hb3.mono HB2.out.size))
 have m0 := bcl hb3 q0
 have m1 := bcl hb3 q1
 have mf0 := (hb3.frozen (p := ⟨w.heap.size, 0, none⟩) hlt).trans f0
 have mf1 := (hb3.frozen (p := ⟨w.heap.size, 1, none⟩) hlt).trans f1
 clear hv hM hS hlk hb3 hk q0 q1 f0 f1
 go_wp2_with fail
 have zz := two_setW (x0 := .bool neg') (x1 := .slice p k k) m0 m1
 exact bodyPost_ret (v := .agg #[.bool neg', .slice p k k]) (by simp [results, Tryz.results65, go_sem, zz.1, zz.2]) rfl ⟨neg', _, ws', rfl, (HM.out.set2 (by omega) _ _).low (by omega), HS.out, (HB3.out.setCell (by simp) _).setCell (by simp) _⟩
theorem of_neg (n : Int) (w : World) (h0 : n < 0) (h1 : -9223372036854775808 ≤ n) :
   Calls Tryz.prog 65 #[.int .i64 n] w (BigPost w w.heap.size n) := by
 obtain ⟨m, hm, hm0, hm1, hnm⟩ : ∃ m : Int, IntKind.u64.wrap (-IntKind.u64.wrap n) = m ∧ 0 ≤ m ∧ m ≤ 9223372036854775808 ∧ n = -m := by
   refine ⟨-n, ?_, by omega, by omega, by omega⟩
   rw [u64w, u64w]; omega
 have HN := hid hnm
 clear hnm
 go_enter Tryz.func65, Tryz.ntmps65
 go_wp2_with fail
 clear hm
 generalize hw2 : World.alloc (World.alloc w _) _ = w2
 have hL : LU w2 (w.heap.size + 1) [m % 1000000000000000000, m / 1000000000000000000] := by
   rw [← hw2]
   have := LU.two (w.alloc (.cells #[.bool false, .slice none 0 0] 24)) (m % 1000000000000000000) (m / 1000000000000000000)
   simpa using this
 have HL := hid hL
 have HB2 := hid (show Below w.heap.size w w2 by rw [← hw2]; exact ((Below.refl _ _).alloc (Nat.le_refl _) _).alloc (by simp) _)
 have q0 : w2.cell? ⟨w.heap.size, 0, none⟩ = some (.bool false) := by rw [← hw2]; exact acl (by simp) _
 have q1 : w2.cell? ⟨w.heap.size, 1, none⟩ = some (.slice none 0 0) := by rw [← hw2]; exact acl (by simp) _
 have f0 : w2.frozen? ⟨w.heap.size, 0, none⟩ = false := by rw [← hw2]; exact alloc_frozen (by simp) (by simp) _
 have f1 : w2.frozen? ⟨w.heap.size, 1, none⟩ = false := by rw [← hw2]; exact alloc_frozen (by simp) (by simp) _
 have hlt : w.heap.size < w2.heap.size := by rw [← hw2]; simp; omega
 clear hw2 hL
 refine (made_any true _ 2 [m % 1000000000000000000, m / 1000000000000000000] w2 ((HL.out.mine (Nat.zero_le _)).rd (by simp))).mono ?_
 rintro e w3 ⟨k, hk, rfl, hb3⟩
 obtain ⟨neg', p, ws', hv, hM, hS, hlk⟩ := of_core (B0 := w.heap.size + 1) true m (by omega) (by omega) w3 k hk (HL.out.keep hb3) (Nat.le_refl _)
 rw [hv]
 have HM := hid (hM w3 rfl)
 have HS := hid hS
 have HB3 := hid (HB2.out.trans (hb3.mono HB2.out.size))
 have m0 := bcl hb3 q0
 have m1 := bcl hb3 q1
 have mf0 := (hb3.frozen (p := ⟨w.heap.size, 0, none⟩) hlt).trans f0
 have mf1 := (hb3.frozen (p := ⟨w.heap.size, 1, none⟩) hlt).trans f1
 clear hv hM hS hlk hb3 hk q0 q1 f0 f1
 go_wp2_with fail
 have zz := two_setW (x0 := .bool neg') (x1 := .slice p k k) m0 m1
 exact bodyPost_ret (v := .agg #[.bool neg', .slice p k k]) (by simp [results, Tryz.results65, go_sem, zz.1, zz.2]) rfl ⟨neg', _, ws', rfl, (HM.out.set2 (by omega) _ _).low (by omega), by rw [HN.out]; exact HS.out, (HB3.out.setCell (by simp) _).setCell (by simp) _⟩
theorem of_int (n : Int) (w : World) (h0 : -9223372036854775808 ≤ n) (h1 : n ≤ 9223372036854775807) :
   Calls Tryz.prog 65 #[.int .i64 n] w (BigPost w w.heap.size n) := by
 by_cases h : n < 0
 · exact of_neg n w h h0
 · exact of_pos n w (by omega) h1
end
section
end
end Go.Proofs.YtlhfemgimieooaaGreatDoor
