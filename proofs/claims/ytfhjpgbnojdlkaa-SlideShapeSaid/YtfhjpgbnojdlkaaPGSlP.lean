/- A row of words of the call's own or of a memory, read as a list and written in place; heads and their marks as numbers. Layer 14: the iterators over objects and over an object's addresses. Layer 14: the iterator over the places of an object's addresses. Layer 14, plain: the objects of a memory, what is reached from roots, and the marking of it. -/
import Derived.Test.YtfhjpgbnojdlkaaPStaysStep
import Derived.Test.YtfhjpgbnojdlkaaPPm
import Derived.BigRegion
import Derived.Test.YtfhjpgbnojdlkaaPGIt
import Derived.OwnWalkIn
import Derived.TacticsInMore
import Derived.LoopIn
import Derived.Test.YtfhjpgbnojdlkaaPFormOf
namespace Go.Proofs.Ytfhjpgbnojdlkaa
section
open Go Go.ChangeShapes Go.WideShapes Go.ChangeAt Go.RowKit
set_option linter.unusedVariables false
set_option linter.unusedSimpArgs false
structure Wd (w : World) (g c : Nat) (xs : List Int) : Prop where
  row : Row w g xs.length c (fun i => xs.getD i 0)
  le : xs.length ≤ c
  max : xs.length ≤ 17592186043904
theorem Wd.cell {w : World} {g c : Nat} {xs : List Int} (h : Wd w g c xs) {i : Nat} (hi : i < xs.length) : w.cell? ⟨g, i, none⟩ = some (.int .u64 (xs.getD i 0)) := h.row.cell h.le hi
theorem Wd.frozen {w : World} {g c : Nat} {xs : List Int} (h : Wd w g c xs) (i : Nat) : w.frozen? ⟨g, i, none⟩ = false := h.row.frozen i
theorem Wd.lt {w : World} {g c : Nat} {xs : List Int} (h : Wd w g c xs) : g < w.heap.size := h.row.lt
theorem Wd.of {w w' : World} {g c : Nat} {xs : List Int} (h : Wd w g c xs) (e : w'.heap[g]? = w.heap[g]?) : Wd w' g c xs := ⟨h.row.block e, h.le, h.max⟩
theorem Wd.keep {w w' : World} {g c : Nat} {xs : List Int} (h : Wd w g c xs) (hb : Below w.heap.size w w') : Wd w' g c xs := h.of (hb.block _ h.lt)
theorem Wd.rd {w : World} {g c : Nat} {xs : List Int} (h : Wd w g c xs) : Rd w (.slice (some ⟨g, 0, none⟩) xs.length c) xs :=
  .inr ⟨g, 0, c, rfl, h.le, h.max, fun i hi => by rw [Nat.zero_add]; exact h.cell hi⟩
theorem Wd.set {w : World} {g c : Nat} {xs : List Int} (h : Wd w g c xs) (q : Nat) (x : Int) (hq : q < xs.length) : Wd (w.setCell ⟨g, q, none⟩ (.int .u64 x)) g c (xs.set q x) := by
  obtain ⟨f, h1, h2⟩ := h.row
  refine ⟨⟨_, h1.set q _, fun i hi => ?_⟩, by rw [List.length_set]; exact h.le, by rw [List.length_set]; exact h.max⟩
  rw [List.length_set] at hi
  dsimp only
  rw [getD_set]
  by_cases e : i = q
  · simp only [if_pos e, if_pos (And.intro e hq)]
  · simp only [if_neg e, if_neg (fun g : i = q ∧ q < xs.length => e g.1)]; exact h2 i hi
/-- The mark: bit 63. -/
def MK : Int := 9223372036854775808
theorem and_63 (n : Nat) : n &&& 2 ^ 63 = if n.testBit 63 = true then 2 ^ 63 else 0 := by
  apply Nat.eq_of_testBit_eq
  intro i
  rw [Nat.testBit_and, Nat.testBit_two_pow]
  by_cases hi : 63 = i
  · subst hi
    cases h : n.testBit 63
    · simp
    · rw [if_pos rfl, Nat.testBit_two_pow]; rfl
  · rw [decide_eq_false hi, Bool.and_false]
    split
    · rw [Nat.testBit_two_pow, decide_eq_false hi]
    · rw [Nat.zero_testBit]
theorem and_mk_lo {x : Int} (h0 : 0 ≤ x) (h : x < 9223372036854775808) : bits BinOp.and IntKind.u64 x 9223372036854775808 = 0 := by
  rw [u64_and x _ h0 (by omega) (by omega) (by omega), show (9223372036854775808 : Int).toNat = 2 ^ 63 from rfl, and_63, Nat.testBit_lt_two_pow (by omega)]
  rfl
theorem and_mk_hi {x : Int} (h0 : 9223372036854775808 ≤ x) (h : x ≤ 18446744073709551615) : bits BinOp.and IntKind.u64 x 9223372036854775808 = 9223372036854775808 := by
  rw [u64_and x _ (by omega) (by omega) (by omega) (by omega), show (9223372036854775808 : Int).toNat = 2 ^ 63 from rfl, and_63]
  have : x.toNat.testBit 63 = true := by
    rw [Nat.testBit_eq_decide_div_mod_eq, decide_eq_true_eq]
    omega
  rw [this]; rfl
theorem or_mk {x : Int} (h0 : 0 ≤ x) (h : x < 9223372036854775808) : bits BinOp.or IntKind.u64 x 9223372036854775808 = x + 9223372036854775808 := by
  have wr : ∀ n : Int, 0 ≤ n → n < 2 ^ 64 → IntKind.u64.wrap n = n := fun n h₀ h₁ => by rw [u64w]; omega
  have comm : bits BinOp.or IntKind.u64 x 9223372036854775808 = bits BinOp.or IntKind.u64 9223372036854775808 x := by
    rw [u64_or x _ (by omega) (by omega) (by omega) (by omega), u64_or _ x (by omega) (by omega) (by omega) (by omega), Nat.or_comm]
  rw [comm, bits_join .u64 64 (by decide) wr 63 9223372036854775808 x (by omega) (by omega) (by omega) (by omega) (by omega) (by omega)]
  omega
theorem hS_mk {x : Int} (h0 : 0 ≤ x) : hS (x + 9223372036854775808) = hS x := by unfold hS; omega
theorem hT_mk {x : Int} (h0 : 0 ≤ x) : hT (x + 9223372036854775808) = hT x := by unfold hT; omega
set_option maxRecDepth 100000 in
theorem sizeof_any (v : Value) (ws : List Int) (a : Nat) (w : World) (hr : Rd w v ws) (ha : a < ws.length) (hx : 0 ≤ ws.getD a 0 ∧ ws.getD a 0 ≤ 18446744073709551615) :
    Calls Try.prog 90 #[v, .int .i64 a] w fun e w' => e = .returned (.int .i64 (hS (ws.getD a 0))) ∧ w' = w := by
  obtain ⟨b, off, c, rfl, h1, h2, h3⟩ := hr.some (by omega)
  have hc := h3 a ha
  have h1 := andF (ws.getD a 0 / 4294967296) (by omega) (by omega)
  have hle : hS (ws.getD a 0) = ws.getD a 0 / 4294967296 % 16777216 := rfl
  have HL := Lib.hid hle
  have haz : (a : Int) < (ws.length : Int) := by omega
  clear h3 hle
  generalize ws.getD a 0 = x at *
  go_enter Try.func90, Try.ntmps90
  go_wp2_with fail
  go_ret
  exact ⟨ret_one HL.out.symm, rfl⟩
set_option maxRecDepth 100000 in
theorem pushed_new {w : World} {g c : Nat} {xs : List Int} (h : Wd w g c xs) (a lst : Nat) (ha : a + 1 < xs.length) (hx : 0 ≤ xs.getD a 0 ∧ xs.getD a 0 < 9223372036854775808) (hl : (lst : Int) < 9223372036854775808) :
    Calls Try.prog 87 #[.slice (some ⟨g, 0, none⟩) xs.length c, .int .i64 a, .int .i64 lst] w fun e w' => e = .returned (.int .i64 a) ∧ Wd w' g c ((xs.set a (xs.getD a 0 + 9223372036854775808)).set (a + 1) lst) ∧ But1 g w w' := by
  have HW := Lib.hid h
  have c0 := h.cell (i := a) (by omega)
  have c1 := h.cell (i := a + 1) ha
  have f0 := h.frozen a
  have f1 := h.frozen (a + 1)
  have hm := h.max
  have e1 := and_mk_lo hx.1 hx.2
  have e2 := or_mk hx.1 hx.2
  have haz : (a : Int) < (xs.length : Int) := by omega
  have haz1 : (a : Int) + 1 < (xs.length : Int) := by omega
  have w1 : wrap64 ((a : Int) + 1) = (a : Int) + 1 := by unfold wrap64; omega
  have w2 : IntKind.u64.wrap (lst : Int) = (lst : Int) := by rw [u64w]; omega
  have HR := Lib.hid (show Wd ((w.setCell ⟨g, a, none⟩ (.int .u64 (xs.getD a 0 + 9223372036854775808))).setCell ⟨g, a + 1, none⟩ (.int .u64 lst)) g c ((xs.set a (xs.getD a 0 + 9223372036854775808)).set (a + 1) lst) from
    (h.set a _ (by omega)).set (a + 1) _ (by rw [List.length_set]; omega))
  have HB := Lib.hid (show But1 g w ((w.setCell ⟨g, a, none⟩ (.int .u64 (xs.getD a 0 + 9223372036854775808))).setCell ⟨g, a + 1, none⟩ (.int .u64 lst)) from (But1.set g w a _).trans (But1.set g _ (a + 1) _))
  clear h hl
  generalize xs.getD (a + 1) 0 = x1 at c1
  generalize xs.getD a 0 = x at *
  have hx1 := hx.1
  clear hx
  generalize x + 9223372036854775808 = y at *
  go_enter Try.func87, Try.ntmps87
  go_wp2_with fail
  go_ret
  exact ⟨rfl, HR.out, HB.out⟩
set_option maxRecDepth 100000 in
theorem pushed_old {w : World} {g c : Nat} {xs : List Int} (h : Wd w g c xs) (a lst : Nat) (ha : a < xs.length) (hx : 9223372036854775808 ≤ xs.getD a 0 ∧ xs.getD a 0 ≤ 18446744073709551615) :
    Calls Try.prog 87 #[.slice (some ⟨g, 0, none⟩) xs.length c, .int .i64 a, .int .i64 lst] w fun e w' => e = .returned (.int .i64 lst) ∧ w' = w := by
  have c0 := h.cell (i := a) (by omega)
  have hm := h.max
  have e1 := and_mk_hi hx.1 hx.2
  have haz : (a : Int) < (xs.length : Int) := by omega
  clear h
  generalize xs.getD a 0 = x at *
  go_enter Try.func87, Try.ntmps87
  go_wp2_with fail
  go_ret
  exact ⟨rfl, rfl⟩
end
section
open Go Go.ChangeShapes Go.WideShapes Go.ChangeAt Go.RowKit
set_option linter.unusedVariables false
set_option linter.unusedSimpArgs false
attribute [local go_sem] Oper.semAt_some
theorem enter_objs (args : Array Value) (w : World) : (callFunc 89 args).run Try.prog w = .ok (.enter 89 args) w := enters_of Try.func89 (by kernel_rfl) rfl args w
theorem enter_adrs (args : Array Value) (w : World) : (callFunc 103 args).run Try.prog w = .ok (.enter 103 args) w := enters_of Try.func103 (by kernel_rfl) rfl args w
theorem objects_any (p : Option Addr) (n c : Nat) (top : Int) (w : World) :
    Calls Try.prog 45 #[.slice p n c, .int .i64 top] w fun e w' => e = .returned (.func (.func 89) #[] #[.pointer (some ⟨w.heap.size + 1, 0, none⟩), .pointer (some ⟨w.heap.size, 0, none⟩)]) ∧ w' = (w.alloc (.cells #[.slice p n c] 22)).alloc (.cells #[.int .i64 top] 3) := by
  go_enter Try.func45, Try.ntmps45
  go_wp2
  go_ret
  exact ⟨rfl, rfl⟩
theorem addresses_any (p : Option Addr) (n c : Nat) (a : Int) (w : World) :
    Calls Try.prog 88 #[.slice p n c, .int .i64 a] w fun e w' => e = .returned (.func (.func 103) #[] #[.pointer (some ⟨w.heap.size, 0, none⟩), .pointer (some ⟨w.heap.size + 1, 0, none⟩)]) ∧ w' = (w.alloc (.cells #[.slice p n c] 22)).alloc (.cells #[.int .i64 a] 3) := by
  go_enter Try.func88, Try.ntmps88
  go_wp2
  go_ret
  exact ⟨rfl, rfl⟩
/-- Where the k-th object lies, the top behind the last. -/
def nxO (l : List Nat) (tn k : Nat) : Nat := if k < l.length then l.getD k 0 else tn
/-- The objects lie one behind the other from 1 to the top. -/
structure Objs (l : List Nat) (sz : Nat → Nat) (tn : Nat) : Prop where
  one : nxO l tn 0 = 1
  step : ∀ k, k < l.length → nxO l tn (k + 1) = l.getD k 0 + sz (l.getD k 0)
  lt : ∀ k, k < l.length → l.getD k 0 < tn
  top : tn ≤ 1048576
  two : ∀ k, k < l.length → 2 ≤ sz (l.getD k 0)
def ItO (l : List Nat) (k : Nat) (A : World) (args : Array Value) : Prop := args = #[.int .i64 ((l.getD k 0 : Nat) : Int)]
/-- What the iterator may read ahead of its k-th round: the size of the k-th object. -/
def RO (l : List Nat) (sz : Nat → Nat) (v : Value) (k : Nat) (A : World) : Prop := k < l.length → ∃ xs, Rd A v xs ∧ l.getD k 0 < xs.length ∧ hS (xs.getD (l.getD k 0) 0) = sz (l.getD k 0) ∧ 0 ≤ xs.getD (l.getD k 0) 0 ∧ xs.getD (l.getD k 0) 0 ≤ 18446744073709551615
theorem Objs.le {l : List Nat} {sz : Nat → Nat} {tn : Nat} (h : Objs l sz tn) (k : Nat) : nxO l tn k ≤ tn := by
  by_cases hk : k < l.length
  · have := h.lt k hk; unfold nxO; rw [if_pos hk]; omega
  · unfold nxO; rw [if_neg hk]; exact Nat.le_refl _
theorem objs_num {a s nx tn : Nat} (h : a + s = nx) (h2 : 2 ≤ s) (h3 : a < tn) (h4 : tn ≤ 1048576) (h5 : nx ≤ tn) : wrap64 ((a : Int) + (s : Int)) = (nx : Int) ∧ tn + 1 - nx < tn + 1 - a :=
  ⟨by unfold wrap64; omega, by omega⟩
theorem nxO_lt {l : List Nat} {tn k : Nat} (h : k < l.length) : nxO l tn k = l.getD k 0 := if_pos h
theorem nxO_ge {l : List Nat} {tn k : Nat} (h : ¬ k < l.length) : nxO l tn k = tn := if_neg h
set_option maxRecDepth 100000 in
set_option maxHeartbeats 4000000 in
theorem objs_gives {l : List Nat} {sz : Nat → Nat} {tn : Nat} (ho : Objs l sz tn) (p : Option Addr) (n c : Nat) (W : World) (bt bw : Nat) (K : Nat → Prop) (hbt : W.cell? ⟨bt, 0, none⟩ = some (.int .i64 tn)) (hbw : W.cell? ⟨bw, 0, none⟩ = some (.slice p n c)) (hKt : K bt) (hKw : K bw) :
    GivesJ Try.prog 89 #[.pointer (some ⟨bt, 0, none⟩), .pointer (some ⟨bw, 0, none⟩)] l.length (ItO l) K (RO l sz (.slice p n c)) W := by
  intro q J hRJ hJ hstep hE0
  have HO := Lib.hid ho
  have HRJ := Lib.hid hRJ
  have HST := Lib.hid hstep
  have HJ := Lib.hid hJ
  have HE0 := Lib.hid hE0
  have HBT := Lib.hid hbt
  have HBW := Lib.hid hbw
  have hlt := World.block_lt_of_cell? W _ hbt
  have hlw := World.block_lt_of_cell? W _ hbw
  dsimp only at hlt hlw
  clear hRJ hJ hstep hE0 ho
  refine (callsIn_wide (n := 0)).2 ?_
  go_enter Try.func89, Try.ntmps89
  go_wp2_with fail
  refine (wpIn_wide (n := 0)).1 ?_
  clear hbt hbw
  gi_loopw [4, 5] (fun s _ wr => ∃ k : Nat, s = .int .i64 (nxO l tn k) ∧ k ≤ l.length ∧ J W.heap.size k wr ∧ Kw (fun b => K b) W wr) (fun s _ _ => tn + 1 - (intOf s).toNat)
  case atStart => exact ⟨0, by rw [HO.out.one]; rfl, Nat.zero_le _, HE0.out _ (Nat.le_refl _), Kw.refl _ _⟩
  case round =>
    obtain ⟨k, rfl, hk, hJk, hkw⟩ := hrel
    have HJK := Lib.hid hJk
    have HKW := Lib.hid hkw
    have y1 := (World.cell?_of_block (a := ⟨bt, 0, none⟩) (hkw.block _ hKt hlt)).trans HBT.out
    have y2 := (World.cell?_of_block (a := ⟨bw, 0, none⟩) (hkw.block _ hKw hlw)).trans HBW.out
    have hs := hkw.size
    clear hJk hkw
    by_cases hlt2 : k < l.length
    · have hx := HO.out.lt k hlt2
      have hst := HO.out.step k hlt2
      have htp := HO.out.top
      have htw := HO.out.two k hlt2
      rw [nxO_lt hlt2]
      obtain ⟨xs, hr, h1, h2, h3⟩ := HRJ.out _ _ _ (Nat.le_refl _) HJK.out hlt2
      have HRR := Lib.hid hr
      have HX := Lib.hid h3
      have HIT := Lib.hid (show ItO l k wr #[.int .i64 ((l.getD k 0 : Nat) : Int)] from rfl)
      generalize l.getD k 0 = a at *
      have haz : (a : Int) < (tn : Int) := by omega
      obtain ⟨s, hss⟩ : ∃ s, sz a = s := ⟨_, rfl⟩
      rw [hss] at h2 hst htw
      have HX2 := Lib.hid h2
      have HST2 := Lib.hid hst
      clear hr h2 h3 hss hst
      have hle := HO.out.le (k + 1)
      obtain ⟨nx, hnx⟩ : ∃ nx, nxO l tn (k + 1) = nx := ⟨_, rfl⟩
      rw [hnx] at hle
      have HNX := Lib.hid hnx
      obtain ⟨hw1, hmeas⟩ := objs_num (HST2.out.symm.trans hnx) htw hx htp hle
      clear hnx
      gi_wp2
      refine ⟨trivial, rfl, CallsIn.mono (callsIn_wide.2 (sizeof_any _ xs a _ HRR.out h1 HX.out)) ?_⟩
      rintro e w9 ⟨rfl, rfl⟩
      rw [HX2.out]
      obtain ⟨fn, tmps, assign, body, hy, hR⟩ := HST.out W.heap.size k _ _ (Nat.le_refl _) hs hlt2 HJK.out HIT.out
      gi_wp2
      refine ⟨rfl, hR.mono ?_⟩
      rintro e W3 ⟨rfl, hJ3, hk3⟩
      have HJ3 := Lib.hid hJ3
      have HK3 := Lib.hid (HKW.out.trans (hk3.mono fun b hb _ => .inl hb))
      clear hJ3 hk3
      gi_wp2
      go_roundw
      case rel => exact ⟨k + 1, by rw [HNX.out], hlt2, HJ3.out, HK3.out⟩
      case measure => simpa [intOf] using hmeas
    · obtain rfl : k = l.length := by omega
      rw [nxO_ge hlt2]
      have hltz : ¬ (tn : Int) < (tn : Int) := Int.lt_irrefl _
      gi_wp2
      go_end0
      exact ⟨⟨_, rfl⟩, W.heap.size, Nat.le_refl _, HJK.out⟩
end
section
open Go Go.ChangeShapes Go.WideShapes Go.ChangeAt Go.RowKit
set_option linter.unusedVariables false
set_option linter.unusedSimpArgs false
attribute [local go_sem] Oper.semAt_some
def cntF (p : Nat → Bool) (j : Nat) : Nat := ((List.range j).filter p).length
theorem cntF_succ (p : Nat → Bool) (j : Nat) : cntF p (j + 1) = cntF p j + if p j = true then 1 else 0 := by
  unfold cntF
  rw [List.range_succ, List.filter_append, List.length_append]
  congr 1
  by_cases h : p j = true
  · rw [if_pos h]; simp [h]
  · rw [if_neg h]; simp [h]
theorem filt_get {p : Nat → Bool} {j : Nat} (hp : p j = true) : ∀ T, j < T → ((List.range T).filter p).getD (cntF p j) 0 = j ∧ cntF p j < cntF p T := by
  intro T
  induction T with
  | zero => intro h; omega
  | succ T ih =>
    intro hj
    have hs := cntF_succ p T
    rcases Nat.lt_or_ge j T with h | h
    · have := ih h
      refine ⟨?_, by omega⟩
      rw [List.range_succ, List.filter_append, List.getD_eq_getElem?_getD, List.getElem?_append_left this.2, ← List.getD_eq_getElem?_getD]
      exact this.1
    · obtain rfl : j = T := by omega
      rw [if_pos hp] at hs
      refine ⟨?_, by omega⟩
      rw [List.range_succ, List.filter_append, List.getD_eq_getElem?_getD]
      show (List.filter p (List.range j) ++ List.filter p [j])[(List.filter p (List.range j)).length]?.getD 0 = j
      rw [List.getElem?_append_right (Nat.le_refl _), Nat.sub_self]
      simp [hp]
theorem filt_lt {p : Nat → Bool} {T : Nat} : ∀ j, j ≤ T → 0 < cntF p j → ((List.range T).filter p).getD (cntF p j - 1) 0 < j := by
  intro j
  induction j with
  | zero => intro _ h; simp [cntF] at h
  | succ j ih =>
    intro hj h
    have hs := cntF_succ p j
    by_cases hp : p j = true
    · rw [if_pos hp] at hs
      rw [hs, Nat.add_sub_cancel, (filt_get hp T (by omega)).1]
      omega
    · have hs : cntF p (j + 1) = cntF p j := by rw [hs, if_neg hp]; rfl
      rw [hs] at h ⊢
      have := ih (by omega) h
      omega
/-- Is the j-th tagged word an address? -/
def isA (vs : List Int) (a j : Nat) : Bool := decide (vs.getD (a + 2 + j) 0 % 4 = 0)
/-- The places of the addresses. -/
def adrP (vs : List Int) (a T : Nat) : List Nat := ((List.range T).filter (isA vs a)).map (a + 2 + ·)
theorem adrP_len (vs : List Int) (a T : Nat) : (adrP vs a T).length = cntF (isA vs a) T := by unfold adrP cntF; rw [List.length_map]
theorem adrP_get {vs : List Int} {a T k : Nat} (h : k < cntF (isA vs a) T) : (adrP vs a T).getD k 0 = a + 2 + ((List.range T).filter (isA vs a)).getD k 0 := by
  unfold adrP cntF at *
  rw [List.getD_eq_getElem?_getD, List.getElem?_map, List.getElem?_eq_getElem h, List.getD_eq_getElem?_getD, List.getElem?_eq_getElem h]
  rfl
/-- From where on the words must be as they were ahead of the k-th round. -/
def loA (vs : List Int) (a T k : Nat) : Nat := if k = 0 then a + 2 else max (a + 2) ((adrP vs a T).getD (k - 1) 0 + 1)
theorem loA_ge (vs : List Int) (a T k : Nat) : a + 2 ≤ loA vs a T k := by unfold loA; split <;> omega
theorem cntF_mono (p : Nat → Bool) {i j : Nat} (h : i ≤ j) : cntF p i ≤ cntF p j := by
  induction j with
  | zero => obtain rfl : i = 0 := by omega
            exact Nat.le_refl _
  | succ j ih =>
    rcases Nat.lt_or_ge i (j + 1) with h' | h'
    · have := ih (by omega); have := cntF_succ p j; omega
    · obtain rfl : i = j + 1 := by omega
      exact Nat.le_refl _
theorem loA_le {vs : List Int} {a T j : Nat} (hj : j ≤ T) : loA vs a T (cntF (isA vs a) j) ≤ a + 2 + j := by
  unfold loA
  split
  · omega
  · rename_i h
    have h1 := filt_lt (p := isA vs a) (T := T) j hj (by omega)
    have h2 := cntF_mono (isA vs a) hj
    rw [adrP_get (by omega)]
    omega
def ItA (vs : List Int) (a T : Nat) (k : Nat) (A : World) (args : Array Value) : Prop := args = #[.int .i64 (((adrP vs a T).getD k 0 : Nat) : Int), .int .i64 (vs.getD ((adrP vs a T).getD k 0) 0 / 4)]
def RA (vs : List Int) (a T g c : Nat) (k : Nat) (A : World) : Prop := ∃ xs, Wd A g c xs ∧ xs.length = vs.length ∧ ∀ i, loA vs a T k ≤ i → i < a + 2 + T → xs.getD i 0 = vs.getD i 0
theorem adr_num {a j i T N : Nat} (h : a + 2 + T ≤ N) (h2 : N ≤ 17592186043904) (hj : j ≤ T) (hi : i = a + 2 + j) : wrap64 ((a : Int) + 2) = (a : Int) + 2 ∧ wrap64 ((a : Int) + 2 + (T : Int)) = (a : Int) + 2 + (T : Int) ∧ wrap64 ((i : Int) + 1) = (i : Int) + 1 ∧ (i : Int) ≤ 17592186043904 := by
  refine ⟨?_, ?_, ?_, ?_⟩
  · unfold wrap64; omega
  · unfold wrap64; omega
  · unfold wrap64; omega
  · omega
theorem adr_meas {a i j T : Nat} (hi : i = a + 2 + j) (h : j < T) : a + 2 + T - (i + 1) < a + 2 + T - i := by omega
theorem adr_q {x : Int} (h : 0 ≤ x ∧ x ≤ 18446744073709551615) : 0 ≤ x / 4 ∧ x / 4 ≤ 4611686018427387904 := by omega
set_option maxRecDepth 100000 in
set_option maxHeartbeats 4000000 in
theorem adrs_gives {vs : List Int} (hf : Fit vs) (a T g c : Nat) (W : World) (ba bw : Nat) (K : Nat → Prop) (hba : W.cell? ⟨ba, 0, none⟩ = some (.int .i64 a)) (hbw : W.cell? ⟨bw, 0, none⟩ = some (.slice (some ⟨g, 0, none⟩) vs.length c)) (hKa : K ba) (hKw : K bw)
    (hN : a + 2 + T ≤ vs.length) (xs : List Int) (hW : Wd W g c xs) (hl : xs.length = vs.length) (hx : 0 ≤ xs.getD a 0 ∧ xs.getD a 0 ≤ 18446744073709551615) (hT : hT (xs.getD a 0) = T) :
    GivesJ Try.prog 103 #[.pointer (some ⟨bw, 0, none⟩), .pointer (some ⟨ba, 0, none⟩)] (adrP vs a T).length (ItA vs a T) K (RA vs a T g c) W := by
  intro q J hRJ hJ hstep hE0
  have HRJ := Lib.hid hRJ
  have HST := Lib.hid hstep
  have HJ := Lib.hid hJ
  have HE0 := Lib.hid hE0
  have HBA := Lib.hid hba
  have HBW := Lib.hid hbw
  have hlt := World.block_lt_of_cell? W _ hba
  have hlw := World.block_lt_of_cell? W _ hbw
  dsimp only at hlt hlw
  have hmx : vs.length ≤ 17592186043904 := by rw [← hl]; exact hW.max
  have c0 := hW.cell (i := a) (by omega)
  have hTe : xs.getD a 0 / 256 % 16777216 = (T : Int) := hT
  have h1 := andF (xs.getD a 0 / 256) (by omega) (by omega)
  have haz : (a : Int) < (vs.length : Int) := by omega
  have HF := Lib.hid hf
  clear hRJ hJ hstep hE0 hT hf
  generalize xs.getD a 0 = x at *
  refine (callsIn_wide (n := 0)).2 ?_
  go_enter Try.func103, Try.ntmps103
  go_wp2_with fail
  refine (wpIn_wide (n := 0)).1 ?_
  clear hba hbw c0 h1 hTe haz
  gi_loopw [5] (fun s wr => ∃ j i : Nat, s = .int .i64 i ∧ i = a + 2 + j ∧ j ≤ T ∧ J W.heap.size (cntF (isA vs a) j) wr ∧ Kw (fun b => K b) W wr) (fun s _ => a + 2 + T - (intOf s).toNat)
  case atStart => exact ⟨0, a + 2, by go_num, rfl, Nat.zero_le _, HE0.out _ (Nat.le_refl _), Kw.refl _ _⟩
  case round =>
    obtain ⟨j, i, rfl, hi, hj, hJk, hkw⟩ := hrel
    have HJK := Lib.hid hJk
    have HKW := Lib.hid hkw
    have HI := Lib.hid hi
    have y1 := (World.cell?_of_block (a := ⟨ba, 0, none⟩) (hkw.block _ hKa hlt)).trans HBA.out
    have y2 := (World.cell?_of_block (a := ⟨bw, 0, none⟩) (hkw.block _ hKw hlw)).trans HBW.out
    have hs := hkw.size
    clear hJk hkw
    have HNUM := Lib.hid (adr_num hN hmx hj hi)
    by_cases hlt2 : j < T
    · obtain ⟨xs2, hr, hl2, hsame⟩ := HRJ.out _ _ _ (Nat.le_refl _) HJK.out
      have hxe := hsame i (by rw [hi]; exact loA_le hj) (by rw [hi]; omega)
      have cx := hr.cell (i := i) (by rw [hl2, hi]; omega)
      rw [hxe] at cx
      have hxb := HF.out i
      have HIX := Lib.hid (show isA vs a j = decide (vs.getD i 0 % 4 = 0) by rw [hi]; rfl)
      have HIT := Lib.hid (fun (h : isA vs a j = true) => show ItA vs a T (cntF (isA vs a) j) wr #[.int .i64 (i : Int), .int .i64 (vs.getD i 0 / 4)] by
        have h1 := filt_get h T hlt2
        unfold ItA
        rw [adrP_get h1.2, h1.1, ← hi])
      have HKN := Lib.hid (fun (h : isA vs a j = true) => show cntF (isA vs a) j < (adrP vs a T).length by
        rw [adrP_len]; exact (filt_get h T hlt2).2)
      have HCS := Lib.hid (cntF_succ (isA vs a) j)
      have hiz : (i : Int) < (vs.length : Int) := by omega
      have hlz : (i : Int) < (a : Int) + 2 + (T : Int) := by omega
      have hme := adr_meas hi hlt2
      clear hsame hxe hr hi
      generalize vs.getD i 0 = x at *
      have ha3 := and3 x hxb.1 hxb.2
      have hz := adr_q hxb
      obtain ⟨z, hzz⟩ : ∃ z, x / 4 = z := ⟨_, rfl⟩
      rw [hzz] at hz HIT
      by_cases hp : x % 4 = 0
      · have hA : isA vs a j = true := by rw [HIX.out]; exact decide_eq_true hp
        rw [hp] at ha3
        obtain ⟨fn, tmps, assign, body, hy, hR⟩ := HST.out W.heap.size _ _ _ (Nat.le_refl _) hs (HKN.out hA) HJK.out (HIT.out hA)
        have HA := Lib.hid hA
        clear hA hxb hp
        have n4 := HNUM.out.2.2.2
        gi_wp2
        refine ⟨rfl, hR.mono ?_⟩
        rintro e W3 ⟨rfl, hJ3, hk3⟩
        have HJ3 := Lib.hid hJ3
        have HK3 := Lib.hid (HKW.out.trans (hk3.mono fun b hb _ => .inl hb))
        clear hJ3 hk3
        gi_wp2
        go_roundw
        case rel => exact ⟨j + 1, i + 1, by go_num, by rw [HI.out]; rfl, hlt2, by rw [HCS.out, if_pos HA.out]; exact HJ3.out, HK3.out⟩
        case measure => simpa [intOf] using hme
      · have hA : isA vs a j = false := by rw [HIX.out]; exact decide_eq_false hp
        have hp2 : (x % 4 == 0) = false := by simpa using hp
        have HA := Lib.hid hA
        clear hA hxb
        have n4 := HNUM.out.2.2.2
        gi_wp2
        refine ⟨fun f h => by (cases h), ?_⟩
        gi_wp2
        go_roundw
        case rel => exact ⟨j + 1, i + 1, by go_num, by rw [HI.out]; rfl, hlt2, by rw [HCS.out, if_neg (by rw [HA.out]; simp)]; exact HJK.out, HKW.out⟩
        case measure => simpa [intOf] using hme
    · obtain rfl : j = T := by omega
      have hlz : ¬ (i : Int) < (a : Int) + 2 + (j : Int) := by omega
      have HL := Lib.hid (adrP_len vs a j)
      clear hi
      have n4 := HNUM.out.2.2.2
      gi_wp2
      go_end0
      exact ⟨⟨_, rfl⟩, W.heap.size, Nat.le_refl _, by rw [HL.out]; exact HJK.out⟩
end
section
open Go.RowKit
set_option linter.unusedSimpArgs false
set_option linter.unusedVariables false
def tgN (ws : List Int) (a : Nat) : Nat := (hT (ws.getD a 0)).toNat
def szN (ws : List Int) (a : Nat) : Nat := (hS (ws.getD a 0)).toNat
/-- The words of the objects l, the top behind the last. -/
structure Ob (ws : List Int) (tn : Nat) (l : List Nat) : Prop where
  le : tn ≤ ws.length
  most : ws.length ≤ 1048576
  fit : Fit ws
  one : nxO l tn 0 = 1
  step : ∀ k, k < l.length → nxO l tn (k + 1) = l.getD k 0 + szN ws (l.getD k 0)
  rising : l.Pairwise (· < ·)
  in1 : ∀ a ∈ l, 1 ≤ a ∧ 2 + tgN ws a ≤ szN ws a ∧ a + szN ws a ≤ tn
  head : ∀ a ∈ l, 0 ≤ ws.getD a 0 ∧ ws.getD a 0 < 72057594037927936
  fwd : ∀ a ∈ l, ws.getD (a + 1) 0 = 0
  apart : ∀ a ∈ l, ∀ b ∈ l, a = b ∨ a + szN ws a ≤ b ∨ b + szN ws b ≤ a
  words : ∀ a ∈ l, ∀ j, j < tgN ws a → rightW l (ws.getD (a + 2 + j) 0) = true
theorem scan_steps {vs : List Int} : ∀ (f k : Nat) (l : List Nat), scanF vs f k = some l → k ≤ vs.length → nxO l vs.length 0 = k ∧ ∀ i, i < l.length → nxO l vs.length (i + 1) = l.getD i 0 + sz vs (l.getD i 0) := by
  intro f
  induction f with
  | zero =>
    intro k l h hk
    simp only [scanF] at h
    split at h
    · cases h
    · simp only [Option.some.injEq] at h; subst h
      exact ⟨by rw [nxO_ge (by simp)]; omega, fun i hi => by simp at hi⟩
  | succ f ih =>
    intro k l h hk
    simp only [scanF] at h
    split at h
    · split at h
      · rename_i ho
        rw [Option.map_eq_some_iff] at h
        obtain ⟨r, hr, rfl⟩ := h
        have hs := okAt_sz ho
        obtain ⟨h1, h2⟩ := ih _ r hr (by omega)
        have hsh : ∀ i, nxO (k :: r) vs.length (i + 1) = nxO r vs.length i := fun i => by
          unfold nxO
          simp only [List.length_cons, Nat.add_lt_add_iff_right]
          split <;> simp
        refine ⟨by unfold nxO; simp, fun i hi => ?_⟩
        rw [hsh]
        cases i with
        | zero => rw [h1]; simp
        | succ i =>
          rw [h2 i (by simpa using hi)]
          simp
      · cases h
    · simp only [Option.some.injEq] at h; subst h
      exact ⟨by rw [nxO_ge (by simp)]; omega, fun i hi => by simp at hi⟩
theorem ok_head {vs : List Int} {a : Nat} (h : okAt vs a = true) : headAt vs a = vs.getD a 0 ∧ vs.getD a 0 < 72057594037927936 ∧ vs.getD (a + 1) 0 = 0 := by
  have h2 := okAt_two h
  have h1 := okAt_sz h
  have e : headAt vs a = vs.getD a 0 := by unfold headAt; rw [if_pos (by omega), Int.toNat_natCast]
  refine ⟨e, ?_, ?_⟩
  · unfold okAt at h
    simp only [Bool.and_eq_true, decide_eq_true_eq] at h
    rw [← e]; exact h.2.1
  · unfold okAt at h
    simp only [Bool.and_eq_true, decide_eq_true_eq] at h
    exact h.2.2
theorem ob_of {ws : List Int} {tn : Nat} {l : List Nat} (h : Form ws tn l) (hf : Fit ws) (us : List Int) (hu : ∀ i, i < tn → us.getD i 0 = ws.getD i 0) (hl : tn ≤ us.length) (hm : us.length ≤ 1048576) (hfu : Fit us) : Ob us tn l := by
  have hlen := h.len
  have hok := fun a ha => scan_mem_ok h.scan a ha
  have hla := fun a ha => okAt_len (hok a ha)
  have htk : ∀ i, i < tn → (ws.take tn).getD i 0 = us.getD i 0 := fun i hi => by rw [getD_take, if_pos hi, hu i hi]
  have hhd : ∀ a ∈ l, headAt (ws.take tn) a = us.getD a 0 := fun a ha => by
    have h1 := okAt_two (hok a ha)
    rw [(ok_head (hok a ha)).1, htk a (by omega)]
  have hsz : ∀ a ∈ l, sz (ws.take tn) a = szN us a := fun a ha => by unfold sz szN; rw [hhd a ha]
  have htg : ∀ a ∈ l, (hT (headAt (ws.take tn) a)).toNat = tgN us a := fun a ha => by unfold tgN; rw [hhd a ha]
  have hst := scan_steps _ 1 l h.scan (by rw [hlen]; exact h.one)
  rw [hlen] at hst
  refine ⟨hl, hm, hfu, hst.1, fun k hk => ?_, scanF_rising _ _ _ _ h.scan, fun a ha => ?_, fun a ha => ?_, fun a ha => ?_, fun a ha b hb => ?_, fun a ha j hj => ?_⟩
  · rw [hst.2 k hk, hsz _ (mem_getD hk)]
  · have h1 := hla a ha
    have h2 := okAt_sz (hok a ha)
    rw [hlen, hsz a ha, htg a ha] at h1
    omega
  · have h1 := okAt_two (hok a ha)
    have h2 := (ok_head (hok a ha)).2.1
    rw [htk a (by omega)] at h2
    exact ⟨(hfu a).1, h2⟩
  · have h1 := okAt_two (hok a ha)
    have h2 := (ok_head (hok a ha)).2.2
    rwa [htk _ (by omega)] at h2
  · have := scan_apart _ _ _ h.scan a ha b hb
    rwa [hsz a ha, hsz b hb] at this
  · have h1 := hla a ha
    rw [hlen, hsz a ha, htg a ha] at h1
    have := h.words a ha j (by rw [htg a ha]; exact hj)
    rwa [htk _ (by omega)] at this
theorem Ob.objs {ws : List Int} {tn : Nat} {l : List Nat} (h : Ob ws tn l) : Objs l (szN ws) tn :=
  ⟨h.one, h.step, fun k hk => by have := h.in1 _ (mem_getD hk); omega, by have := h.le; have := h.most; omega, fun k hk => by have := h.in1 _ (mem_getD hk); omega⟩
/-- The objects whose addresses an object holds. -/
def sucs (ws : List Int) (a : Nat) : List Nat := (adrP ws a (tgN ws a)).map fun i => (ws.getD i 0 / 4).toNat
theorem adrP_mem {vs : List Int} {a T i : Nat} : i ∈ adrP vs a T ↔ ∃ j, j < T ∧ i = a + 2 + j ∧ vs.getD i 0 % 4 = 0 := by
  unfold adrP isA
  simp only [List.mem_map, List.mem_filter, List.mem_range, decide_eq_true_eq]
  constructor
  · rintro ⟨j, ⟨h1, h2⟩, rfl⟩; exact ⟨j, h1, rfl, h2⟩
  · rintro ⟨j, h1, rfl, h2⟩; exact ⟨j, ⟨h1, h2⟩, rfl⟩
theorem rightW_adr {l : List Nat} {x : Int} (h : rightW l x = true) (h4 : x % 4 = 0) : kindOf x = 0 ∧ (x / 4).toNat ∈ l := by
  unfold rightW at h
  simp only [Bool.and_eq_true, Bool.or_eq_true, Bool.not_eq_true', decide_eq_false_iff_not, decide_eq_true_eq] at h
  have hk : kindOf x = 0 := by
    have h1 := h.1
    unfold kindOf at h1 ⊢
    rw [if_pos h4] at h1 ⊢
    split
    · rfl
    · rename_i hn; rw [if_neg hn] at h1; exact absurd rfl h1
  exact ⟨hk, h.2.resolve_left (fun g => g hk)⟩
theorem Ob.adr {ws : List Int} {tn : Nat} {l : List Nat} (h : Ob ws tn l) {a i : Nat} (ha : a ∈ l) (hi : i ∈ adrP ws a (tgN ws a)) : kindOf (ws.getD i 0) = 0 ∧ (ws.getD i 0 / 4).toNat ∈ l ∧ a + 2 ≤ i ∧ i < a + 2 + tgN ws a := by
  obtain ⟨j, h1, rfl, h2⟩ := adrP_mem.1 hi
  have := rightW_adr (h.words a ha j h1) h2
  exact ⟨this.1, this.2, by omega, by omega⟩
/-- What is reached from roots. -/
inductive Rch (ws : List Int) (rs : List Int) : Nat → Prop
  | root {x : Int} : x ∈ rs → kindOf x = 0 → Rch ws rs (x / 4).toNat
  | step {a b : Nat} : Rch ws rs a → b ∈ sucs ws a → Rch ws rs b
theorem Rch.mem {ws rs : List Int} {tn : Nat} {l : List Nat} (h : Ob ws tn l) (hr : rs.all (rightW l) = true) {a : Nat} (ha : Rch ws rs a) : a ∈ l := by
  induction ha with
  | root hx hk =>
    have := List.all_eq_true.1 hr _ hx
    unfold rightW at this
    simp only [Bool.and_eq_true, Bool.or_eq_true, Bool.not_eq_true', decide_eq_false_iff_not, decide_eq_true_eq] at this
    exact this.2.resolve_left (fun g => g hk)
  | step h1 hb ih =>
    unfold sucs at hb
    obtain ⟨i, hi, rfl⟩ := List.mem_map.1 hb
    exact (h.adr ih hi).2.1
/-- The list of objects that hangs together by the forwards. -/
def Chn (xs : List Int) : List Nat → Nat → Prop
  | [], lst => lst = 0
  | a :: c, lst => lst = a ∧ ∃ nx : Nat, xs.getD (a + 1) 0 = nx ∧ Chn xs c nx
/-- The words while marking goes on: M says what is marked, c hangs together. -/
structure MS (ws : List Int) (l : List Nat) (M : Nat → Bool) (c : List Nat) (xs : List Int) (lst : Nat) : Prop where
  len : xs.length = ws.length
  oth : ∀ i, (∀ a, M a = true → i ≠ a ∧ i ≠ a + 1) → xs.getD i 0 = ws.getD i 0
  hd : ∀ a, M a = true → xs.getD a 0 = ws.getD a 0 + 9223372036854775808
  sub : ∀ a, M a = true → a ∈ l
  ch : Chn xs c lst
  cm : ∀ a ∈ c, M a = true
  nd : c.Nodup
theorem MS.start (ws : List Int) (l : List Nat) : MS ws l (fun _ => false) [] ws 0 :=
  ⟨rfl, fun _ _ => rfl, fun _ h => (by cases h), fun _ h => (by cases h), rfl, fun _ h => (by cases h), List.nodup_nil⟩
theorem chn_keep {xs ys : List Int} : ∀ (c : List Nat) (lst : Nat), (∀ a ∈ c, ys.getD (a + 1) 0 = xs.getD (a + 1) 0) → Chn xs c lst → Chn ys c lst := by
  intro c
  induction c with
  | nil => intro _ _ h; exact h
  | cons a c ih =>
    rintro lst h ⟨e, nx, h1, h2⟩
    exact ⟨e, nx, by rw [h a (by simp), h1], ih nx (fun b hb => h b (List.mem_cons_of_mem _ hb)) h2⟩
def addM (M : Nat → Bool) (b : Nat) : Nat → Bool := fun a => M a || decide (a = b)
theorem addM_iff {M : Nat → Bool} {b a : Nat} : addM M b a = true ↔ M a = true ∨ a = b := by unfold addM; simp
theorem MS.clean {ws : List Int} {tn : Nat} {l : List Nat} {M : Nat → Bool} {c : List Nat} {xs : List Int} {lst : Nat} (h : MS ws l M c xs lst) (ho : Ob ws tn l) {b : Nat} (hb : b ∈ l) (hM : M b = false) : xs.getD b 0 = ws.getD b 0 ∧ ∀ a, M a = true → a ≠ b ∧ a ≠ b + 1 ∧ a + 1 ≠ b := by
  have hsep : ∀ a, M a = true → a ≠ b ∧ a ≠ b + 1 ∧ a + 1 ≠ b := fun a ha => by
    have h1 := ho.apart a (h.sub a ha) b hb
    have h2 := ho.in1 a (h.sub a ha)
    have h3 := ho.in1 b hb
    have h4 : a ≠ b := fun e => by rw [e, hM] at ha; cases ha
    omega
  exact ⟨h.oth b fun a ha => ⟨fun e => (hsep a ha).1 e.symm, fun e => (hsep a ha).2.2 e.symm⟩, hsep⟩
theorem MS.push {ws : List Int} {tn : Nat} {l : List Nat} {M : Nat → Bool} {c : List Nat} {xs : List Int} {lst : Nat} (h : MS ws l M c xs lst) (ho : Ob ws tn l) {b : Nat} (hb : b ∈ l) (hM : M b = false) :
    MS ws l (addM M b) (b :: c) ((xs.set b (xs.getD b 0 + 9223372036854775808)).set (b + 1) lst) b := by
  obtain ⟨hxb, hsep⟩ := h.clean ho hb hM
  have h3 := ho.in1 b hb
  have hl := ho.le
  have hlen := h.len
  have hg : ∀ i, ((xs.set b (xs.getD b 0 + 9223372036854775808)).set (b + 1) lst).getD i 0 = if i = b + 1 then (lst : Int) else if i = b then ws.getD b 0 + 9223372036854775808 else xs.getD i 0 := fun i => by
    rw [getD_set, getD_set, List.length_set, hxb]
    by_cases e1 : i = b + 1
    · rw [if_pos ⟨e1, by omega⟩, if_pos e1]
    · rw [if_neg (fun g => e1 g.1), if_neg e1]
      by_cases e2 : i = b
      · rw [if_pos ⟨e2, by omega⟩, if_pos e2]
      · rw [if_neg (fun g => e2 g.1), if_neg e2]
  have hbc : b ∉ c := fun hc => by have := h.cm b hc; rw [hM] at this; cases this
  refine ⟨by rw [List.length_set, List.length_set]; exact hlen, fun i hi => ?_, fun a ha => ?_, fun a ha => ?_, ⟨rfl, lst, by rw [hg, if_pos rfl], chn_keep c lst (fun a ha => ?_) h.ch⟩, fun a ha => ?_, List.nodup_cons.2 ⟨hbc, h.nd⟩⟩
  · have := hi b (addM_iff.2 (.inr rfl))
    rw [hg, if_neg this.2, if_neg this.1]
    exact h.oth i fun a ha => hi a (addM_iff.2 (.inl ha))
  · rw [hg]
    rcases addM_iff.1 ha with ha | rfl
    · have := hsep a ha
      rw [if_neg this.2.1, if_neg this.1]; exact h.hd a ha
    · rw [if_neg (by omega), if_pos rfl]
  · rcases addM_iff.1 ha with ha | rfl
    · exact h.sub a ha
    · exact hb
  · have := hsep a (h.cm a ha)
    rw [hg, if_neg (by omega), if_neg (by omega)]
  · rcases List.mem_cons.1 ha with rfl | ha
    · exact addM_iff.2 (.inr rfl)
    · exact addM_iff.2 (.inl (h.cm a ha))
theorem MS.pop {ws : List Int} {l : List Nat} {M : Nat → Bool} {a : Nat} {c : List Nat} {xs : List Int} {lst : Nat} (h : MS ws l M (a :: c) xs lst) : lst = a ∧ ∃ nx : Nat, xs.getD (a + 1) 0 = nx ∧ MS ws l M c xs nx := by
  obtain ⟨h1, nx, h2, h3⟩ := h.ch
  exact ⟨h1, nx, h2, h.len, h.oth, h.hd, h.sub, h3, fun b hb => h.cm b (List.mem_cons_of_mem _ hb), (List.nodup_cons.1 h.nd).2⟩
end
end Go.Proofs.Ytfhjpgbnojdlkaa
