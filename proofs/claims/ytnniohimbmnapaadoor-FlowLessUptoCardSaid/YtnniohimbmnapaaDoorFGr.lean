/- Layer 10: a sound function as places, reads and ways in natural numbers. -/
import Derived.Test.YtnniohimbmnapaaDoorFWait
import Derived.IntWalk
import Derived.Laws.Entries
namespace Go.Proofs.YtnniohimbmnapaaDoor
open Go Go.RowKit
set_option linter.unusedVariables false
set_option linter.unusedSimpArgs false
def nats (l : List Int) : List Nat := l.map Int.toNat
theorem ints_nats {l : List Int} (h : ∀ x ∈ l, 0 ≤ x) : ints (nats l) = l := by
  unfold ints nats
  rw [List.map_map]
  conv => rhs; rw [← List.map_id l]
  exact List.map_congr_left fun x hx => by have := h x hx; simp; omega
def waysN (F : FuncD) (x : Nat) : List (Nat × List Nat) := (waysD F x).map fun q => (q.1.toNat, nats q.2)
def readsN (F : FuncD) (x : Nat) : List Nat := nats (readsD (F.ins.getD x insZ))
def grOf (F : FuncD) : Gr := { n := F.ins.length, regs := F.regs.toNat, reads := readsN F, ways := waysN F }
theorem within_mem {l : List Int} {n : Int} (h : withinB l n = true) : ∀ x ∈ l, 0 ≤ x ∧ x < n := fun x hx => by
  unfold withinB at h
  rw [List.all_eq_true] at h
  have := h x hx
  simpa using this
structure SoundF (F : FuncD) : Prop where
  r0 : 0 ≤ F.regs
  r1 : F.regs ≤ 65536
  pos : 0 < F.ins.length
  reads : ∀ x, x < F.ins.length → ∀ r ∈ readsD (F.ins.getD x insZ), 0 ≤ r ∧ r < F.regs
  writes : ∀ x, x < F.ins.length → ∀ r ∈ writesD (F.ins.getD x insZ), 0 ≤ r ∧ r < F.regs
  goes : ∀ x, x < F.ins.length → ∀ y ∈ goesD (F.ins.getD x insZ) x, 0 ≤ y ∧ y < (F.ins.length : Int)
  regs : ∀ q ∈ F.regions, (0 ≤ q.to ∧ q.to < (F.ins.length : Int)) ∧ 0 ≤ q.d ∧ q.d < F.regs
theorem soundF {F : FuncD} (h : soundB F = true) : SoundF F := by
  unfold soundB headOk at h
  simp only [Bool.and_eq_true, List.all_eq_true, List.mem_range, decide_eq_true_eq] at h
  obtain ⟨⟨⟨⟨⟨⟨h0, h1⟩, h2⟩, h3⟩, h4⟩, h5⟩, h6⟩ := h
  refine ⟨h0, h1, h4, fun x hx => ?_, fun x hx => ?_, fun x hx => ?_, fun q hq => ?_⟩
  · have := h5 x hx
    unfold insOk at this
    simp only [Bool.and_eq_true] at this
    exact within_mem this.1.1
  · have := h5 x hx
    unfold insOk at this
    simp only [Bool.and_eq_true] at this
    exact within_mem this.1.2
  · have := h5 x hx
    unfold insOk at this
    simp only [Bool.and_eq_true] at this
    exact within_mem this.2
  · have := h6 q hq
    unfold regOk inB at this
    simp only [Bool.and_eq_true, decide_eq_true_eq] at this
    exact ⟨this.1.2, this.2⟩
theorem SoundF.way {F : FuncD} (h : SoundF F) {x : Nat} (hx : x < F.ins.length) : ∀ q ∈ waysD F x, (0 ≤ q.1 ∧ q.1 < (F.ins.length : Int)) ∧ ∀ r ∈ q.2, 0 ≤ r ∧ r < F.regs := fun q hq => by
  unfold waysD at hq
  rcases List.mem_append.1 hq with hq | hq
  · obtain ⟨k, hk, rfl⟩ := List.mem_map.1 hq
    have hk := List.mem_range.1 hk
    refine ⟨h.goes x hx _ ?_, fun r hr => ?_⟩
    · show (goeL F x).getD k 0 ∈ goeL F x
      rw [List.getD_eq_getElem?_getD, List.getElem?_eq_getElem hk]; exact List.getElem_mem hk
    · dsimp only at hr
      unfold wrL at hr
      split at hr
      · exact h.writes x hx r hr
      · cases hr
  · unfold hanL at hq
    split at hq
    · rename_i h0
      obtain ⟨k, hk, hl⟩ := handler_lt h0
      rw [hk, Int.toNat_natCast] at hq
      simp only [List.mem_singleton] at hq
      subst hq
      have hm : F.regions.getD k regZ ∈ F.regions := by rw [List.getD_eq_getElem?_getD, List.getElem?_eq_getElem hl]; exact List.getElem_mem hl
      have := h.regs _ hm
      exact ⟨this.1, fun r hr => by simp at hr; subst hr; exact this.2⟩
    · cases hq
theorem SoundF.gr {F : FuncD} (h : SoundF F) : (grOf F).Ok := by
  refine ⟨fun x hx r hr => ?_, fun x hx w hw => ?_, fun x hx w hw r hr => ?_, fun x hx => ?_⟩
  · obtain ⟨y, hy, rfl⟩ := List.mem_map.1 (show r ∈ nats _ from hr)
    have := h.reads x hx y hy
    have := h.r0
    show y.toNat < F.regs.toNat
    omega
  · obtain ⟨q, hq, rfl⟩ := List.mem_map.1 (show w ∈ waysN F x from hw)
    have := (h.way hx q hq).1
    show q.1.toNat < F.ins.length
    omega
  · obtain ⟨q, hq, rfl⟩ := List.mem_map.1 (show w ∈ waysN F x from hw)
    obtain ⟨y, hy, rfl⟩ := List.mem_map.1 (show r ∈ nats q.2 from hr)
    have := (h.way hx q hq).2 y hy
    show y.toNat < F.regs.toNat
    omega
  · show (waysN F x).length ≤ 3
    unfold waysN
    rw [List.length_map]
    exact waysD_le F x
theorem waysN_len (F : FuncD) (x : Nat) : (waysN F x).length = (waysD F x).length := by simp [waysN]
theorem SoundF.at_ {F : FuncD} (h : SoundF F) {x k : Nat} (hx : x < F.ins.length) (hk : k < (waysD F x).length) :
    ∃ (to : Nat) (ws : List Nat), (waysN F x).getD k (0, []) = (to, ws) ∧ (waysD F x).getD k wayZ = ((to : Int), ints ws) ∧ to < F.ins.length ∧ ∀ r ∈ ws, r < F.regs.toNat := by
  have hm : (waysD F x)[k] ∈ waysD F x := List.getElem_mem hk
  have hw := h.way hx _ hm
  refine ⟨(waysD F x)[k].1.toNat, nats (waysD F x)[k].2, ?_, ?_, by omega, fun r hr => ?_⟩
  · unfold waysN
    rw [List.getD_eq_getElem?_getD, List.getElem?_map, List.getElem?_eq_getElem hk]; rfl
  · rw [List.getD_eq_getElem?_getD, List.getElem?_eq_getElem hk, ints_nats fun y hy => (hw.2 y hy).1]
    simp only [Option.getD_some]
    rw [Int.toNat_of_nonneg hw.1.1]
  · obtain ⟨y, hy, rfl⟩ := List.mem_map.1 (show r ∈ nats _ from hr)
    have := hw.2 y hy
    omega
theorem SoundF.reads_ints {F : FuncD} (h : SoundF F) {x : Nat} (hx : x < F.ins.length) : readsD (F.ins.getD x insZ) = ints (readsN F x) := (ints_nats fun r hr => (h.reads x hx r hr).1).symm
theorem take_fold {α β : Type} {l : List α} {k : Nat} {d q : α} (hk : k < l.length) (h : l.getD k d = q) (f : β → α → β) (b : β) : (l.take (k + 1)).foldl f b = f ((l.take k).foldl f b) q := by
  rw [List.getD_eq_getElem?_getD, List.getElem?_eq_getElem hk] at h
  simp only [Option.getD_some] at h
  rw [List.take_succ_eq_append_getElem hk, List.foldl_append, h]; rfl
theorem shl_word {k : Nat} (hk : k < 64) : Op.shift .shl .u64 1 .i64 (k : Int) = pure (.int .u64 ((2 ^ k : Nat) : Int)) := by
  rw [shift_shl .u64 .i64 1 (k : Int) (by omega) (by simp [IntKind.bits]; omega), Int.toNat_natCast, Int.one_mul]
  have h := two_lt hk
  have e : ((2 : Int) ^ k) = ((2 ^ k : Nat) : Int) := by push_cast; rfl
  rw [e]
  generalize 2 ^ k = pw at h ⊢
  rw [IntWalk.u64_in _ (by omega)]
theorem clr_word {a k : Nat} (ha : a < 18446744073709551616) (hk : k < 64) : bits .andNot .u64 (a : Int) ((2 ^ k : Nat) : Int) = ((a &&& (18446744073709551615 - 2 ^ k) : Nat) : Int) := u64_andNot_nat a _ ha (two_lt hk)
theorem set_word {a k : Nat} (ha : a < 18446744073709551616) (hk : k < 64) : bits .or .u64 (a : Int) ((2 ^ k : Nat) : Int) = ((a ||| 2 ^ k : Nat) : Int) := u64_or_nat a _ ha (two_lt hk)
theorem wrap_word {k : Nat} (hk : k < 64) : IntKind.u64.wrap ((2 : Int) ^ k) = ((2 ^ k : Nat) : Int) := by
  have h := two_lt hk
  have e : ((2 : Int) ^ k) = ((2 ^ k : Nat) : Int) := by push_cast; rfl
  rw [e]
  generalize 2 ^ k = pw at h ⊢
  rw [IntWalk.u64_in _ (by omega)]
theorem clr_word' {a k : Nat} (ha : a < 18446744073709551616) (hk : k < 64) : bits .andNot .u64 (a : Int) (IntKind.u64.wrap ((2 : Int) ^ k)) = ((a &&& (18446744073709551615 - 2 ^ k) : Nat) : Int) := by rw [wrap_word hk]; exact clr_word ha hk
theorem set_word' {a k : Nat} (ha : a < 18446744073709551616) (hk : k < 64) : bits .or .u64 (a : Int) (IntKind.u64.wrap ((2 : Int) ^ k)) = ((a ||| 2 ^ k : Nat) : Int) := by rw [wrap_word hk]; exact set_word ha hk
theorem clr_step {row ws : List Nat} {j q qd qm dw pw nw : Nat} (hj : j < ws.length) (hq : ws.getD j 0 = q) (h1 : q / 64 = qd) (h2 : q % 64 = qm) (h3 : ((ws.take j).foldl clrW row).getD qd 0 = dw) (h4 : 2 ^ qm = pw) (h5 : dw &&& (18446744073709551615 - pw) = nw) :
    (ws.take (j + 1)).foldl clrW row = ((ws.take j).foldl clrW row).set qd nw := by
  rw [take_fold hj hq clrW row]
  unfold clrW at h3 ⊢
  rw [h1, h2, h4, h3, h5]
theorem andnot_zero {a c : Nat} (ha : a < 18446744073709551616) (hc : c < 18446744073709551616) : c &&& (18446744073709551615 - a) = 0 ↔ a ||| c = a := by
  have hb : ∀ i, (c &&& (18446744073709551615 - a)).testBit i = (c.testBit i && !a.testBit i) := fun i => by
    have ht : (18446744073709551615 - a) = 2 ^ 64 - (a + 1) := by omega
    rw [Nat.testBit_and, ht, Nat.testBit_two_pow_sub_succ (by simpa using ha)]
    by_cases hi : i < 64
    · simp [hi]
    · have : c.testBit i = false := Nat.testBit_lt_two_pow (Nat.lt_of_lt_of_le hc (by have := Nat.pow_le_pow_right (n := 2) (by decide) (Nat.le_of_not_lt hi); simpa using this))
      simp [hi, this]
  constructor
  · intro h
    apply Nat.eq_of_testBit_eq
    intro i
    have := hb i
    rw [h] at this
    rw [Nat.testBit_or]
    cases h1 : a.testBit i <;> cases h2 : c.testBit i <;> simp_all
  · intro h
    apply Nat.eq_of_testBit_eq
    intro i
    rw [hb]
    have := congrArg (fun n => n.testBit i) h
    simp only [Nat.testBit_or] at this
    cases h1 : a.testBit i <;> cases h2 : c.testBit i <;> simp_all
theorem ways_wlen (F : FuncD) (x : Nat) : ∀ q ∈ waysD F x, q.2.length ≤ 1 + (F.ins.getD x insZ).l.length := fun q hq => by
  unfold waysD at hq
  rcases List.mem_append.1 hq with hq | hq
  · obtain ⟨k, hk, rfl⟩ := List.mem_map.1 hq
    dsimp only
    unfold wrL
    split
    · exact writesD_len _
    · simp
  · unfold hanL at hq
    split at hq
    · simp only [List.mem_singleton] at hq
      subst hq
      simp
    · cases hq
theorem ii_len {w : World} {iv : Value} {F : FuncD} (h : Ii w iv F.ins) {x : Nat} (hx : x < F.ins.length) : (F.ins.getD x insZ).l.length ≤ 17592186043904 := by
  obtain ⟨p, c, _, _, _, hp⟩ := ii_form h
  obtain ⟨b, off, _, hc⟩ := hp (by omega)
  obtain ⟨lv, ha⟩ := hc x hx
  exact ha.2.2.2.2.2.2.2.2
/-- The words of two rows one by one. -/
def orK (a c : List Nat) (k : Nat) : List Nat := (List.range a.length).map fun i => if i < k then a.getD i 0 ||| c.getD i 0 else a.getD i 0
theorem orK_zero (a c : List Nat) : orK a c 0 = a := by
  unfold orK
  refine List.ext_getElem (by simp) fun i h1 h2 => ?_
  simp [List.getD_eq_getElem?_getD, h2]
theorem orK_all (a c : List Nat) {k : Nat} (h : a.length ≤ k) : orK a c k = orW a c := by
  unfold orK orW
  refine List.map_congr_left fun i hi => ?_
  rw [if_pos (by have := List.mem_range.1 hi; omega)]
theorem orK_len (a c : List Nat) (k : Nat) : (orK a c k).length = a.length := by simp [orK]
theorem orK_at (a c : List Nat) {k : Nat} (hk : k < a.length) : (orK a c k).getD k 0 = a.getD k 0 := by
  unfold orK
  rw [List.getD_eq_getElem?_getD, List.getElem?_map, List.getElem?_range hk]; simp
theorem orK_succ (a c : List Nat) {k : Nat} (hk : k < a.length) : orK a c (k + 1) = (orK a c k).set k (a.getD k 0 ||| c.getD k 0) := by
  unfold orK
  refine List.ext_getElem (by simp) fun i h1 h2 => ?_
  rw [List.getElem_set]
  simp only [List.length_map, List.length_range] at h1
  by_cases e : k = i
  · subst e; simp
  · rw [if_neg e]
    simp only [List.getElem_map, List.getElem_range]
    by_cases h : i < k
    · rw [if_pos h, if_pos (by omega)]
    · rw [if_neg h, if_neg (by omega)]
theorem orK_same (a c : List Nat) {k : Nat} (hk : k < a.length) (h : a.getD k 0 ||| c.getD k 0 = a.getD k 0) : orK a c (k + 1) = orK a c k := by
  rw [orK_succ a c hk, h, ← orK_at a c hk]
  exact set_getD_self _ _ _
theorem orK_diff (a c : List Nat) {k : Nat} (hk : k < a.length) (h : a.getD k 0 ||| c.getD k 0 ≠ a.getD k 0) : orK a c (k + 1) ≠ a := fun e => by
  apply h
  have := congrArg (fun l => l.getD k 0) e
  simp only [orK_succ a c hk] at this
  rwa [getD_setL _ _ _ _ _ (by rw [orK_len]; exact hk), if_pos rfl] at this
end Go.Proofs.YtnniohimbmnapaaDoor
