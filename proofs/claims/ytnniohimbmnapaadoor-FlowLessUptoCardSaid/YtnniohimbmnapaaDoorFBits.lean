/- Layers 10 and 12: rows of words read as registers: the document's Is, roots.Has. -/
import Derived.Test.YtnniohimbmnapaaDoorFLive
namespace Go.Proofs.YtnniohimbmnapaaDoor
open Go Go.ChangeShapes Go.WideShapes Go.RowKit
set_option linter.unusedVariables false
set_option linter.unusedSimpArgs false
/-- The slice value v reads as these words. -/
def Rw (w : World) (v : Value) (ws : List Nat) : Prop := Rd w v (ints ws) ∧ ∀ i, ws.getD i 0 < 18446744073709551616
theorem Rw.keep {w w' : World} {v : Value} {ws : List Nat} (h : Rw w v ws) (hb : Below w.heap.size w w') : Rw w' v ws := ⟨h.1.keep hb, h.2⟩
theorem rw_form {w : World} {v : Value} {ws : List Nat} (h : Rw w v ws) : ∃ p c, v = .slice p ws.length c ∧ ws.length ≤ c ∧ ws.length ≤ 17592186043904 ∧
    ∀ i, i < ws.length → ∃ b off, p = some ⟨b, off, none⟩ ∧ w.cell? ⟨b, off + i, none⟩ = some (.int .u64 ((ws.getD i 0 : Nat) : Int)) := by
  rcases h.1 with ⟨p, rfl, e⟩ | ⟨b, off, c, rfl, h1, h2, h3⟩
  · have hl : ws.length = 0 := by rw [← ints_len, e]; rfl
    exact ⟨p, 0, by rw [hl], by omega, by omega, fun i hi => by omega⟩
  · rw [ints_len] at h1 h2 h3 ⊢
    exact ⟨_, c, rfl, h1, h2, fun i hi => ⟨b, off, rfl, by rw [h3 i hi, ints_getD]⟩⟩
theorem Blk.rw_ {A : World} {b : Nat} {ws : List Nat} (h : Blk A b (ws.map wordV) 53) (hw : ∀ i, ws.getD i 0 < 18446744073709551616) (hl : ws.length ≤ 17592186043904) : Rw A (.slice (some ⟨b, 0, none⟩) ws.length ws.length) ws := by
  refine ⟨.inr ⟨b, 0, ws.length, by rw [ints_len], by rw [ints_len]; exact Nat.le_refl _, by rw [ints_len]; exact hl, fun i hi => ?_⟩, hw⟩
  rw [ints_len] at hi
  rw [Nat.zero_add, ints_getD]
  exact h.word hi
/-- The slice value v reads as these rows of words. -/
def Rr (w : World) (v : Value) (L : List (List Nat)) : Prop :=
  ∃ p c, v = .slice p L.length c ∧ L.length ≤ 17592186043904 ∧ ∀ i, i < L.length → ∃ b off u, p = some ⟨b, off, none⟩ ∧ w.cell? ⟨b, off + i, none⟩ = some u ∧ Rw w u (L.getD i [])
theorem Rr.keep {w w' : World} {v : Value} {L : List (List Nat)} (h : Rr w v L) (hb : Below w.heap.size w w') : Rr w' v L := by
  obtain ⟨p, c, h1, h2, h3⟩ := h
  refine ⟨p, c, h1, h2, fun i hi => ?_⟩
  obtain ⟨b, off, u, e1, e2, e3⟩ := h3 i hi
  exact ⟨b, off, u, e1, below_cell hb e2, e3.keep hb⟩
/-- Is register r in the row? -/
def isB (ws : List Nat) (r : Int) : Bool := decide (0 ≤ r) && hasW ws r.toNat
theorem isB_neg {ws : List Nat} {r : Int} (h : r < 0) : isB ws r = false := by unfold isB; simp; omega
theorem isB_nat (ws : List Nat) (q : Nat) : isB ws q = hasW ws q := by unfold isB; simp
theorem bit_int {a k : Nat} (hk : k < 64) : (((a : Int) / 2 ^ k).toNat % 2 = 1 ↔ a.testBit k = true) := by
  have e : ((a : Int) / 2 ^ k) = ((a / 2 ^ k : Nat) : Int) := by push_cast; rfl
  rw [e, Int.toNat_natCast, Nat.testBit_eq_decide_div_mod_eq]; simp
theorem and_one {x : Nat} (hx : x < 18446744073709551616) : bits .and .u64 (x : Int) 1 = ((x % 2 : Nat) : Int) := by
  have h := u64_and_nat x 1 hx (by decide)
  have e : (((1 : Nat) : Int)) = 1 := rfl
  rw [e] at h
  rw [h, Nat.and_one_is_mod]
theorem shr_int (a k : Nat) : ((a : Int) / 2 ^ k) = ((a / 2 ^ k : Nat) : Int) := by push_cast; rfl
set_option maxHeartbeats 2000000 in
theorem is_any (v : Value) (ws : List Nat) (r : Int) (w : World) (h : Rw w v ws) (hr : r < 9223372036854775808) (hr0 : -9223372036854775808 ≤ r) :
    Calls Tryd.prog 27 #[v, .int .i64 r] w fun e w' => e = .returned (.bool (isB ws r)) ∧ w = w' := by
  have hw := h.2
  obtain ⟨p, c, rfl, hc, hm, hp⟩ := rw_form h
  have HP := Lib.hid hp
  have HW := Lib.hid hw
  clear hp h hw
  by_cases h0 : r < 0
  · have HN := Lib.hid (isB_neg (ws := ws) h0)
    have h0' : ¬ 0 ≤ r := by omega
    go_enter Tryd.func27, Tryd.ntmps27
    go_wp2
    go_ret
    exact ⟨ret_b HN.out.symm, rfl⟩
  · obtain ⟨q, rfl⟩ := Int.eq_ofNat_of_zero_le (by omega : 0 ≤ r)
    have hq0 : (0 : Int) ≤ (q : Int) := by omega
    by_cases hlt : q / 64 < ws.length
    · obtain ⟨b, off, rfl, hcell⟩ := HP.out _ hlt
      obtain ⟨d, hd⟩ : ∃ d, ws.getD (q / 64) 0 = d := ⟨_, rfl⟩
      have hdw := HW.out (q / 64)
      rw [hd] at hcell hdw
      have hkm : q % 64 < 64 := Nat.mod_lt _ (by decide)
      have HE := Lib.hid (show isB ws q = d.testBit (q % 64) by rw [isB_nat]; unfold hasW; rw [hd])
      obtain ⟨qd, hqd⟩ : ∃ qd, q / 64 = qd := ⟨_, rfl⟩
      obtain ⟨qm, hqm⟩ : ∃ qm, q % 64 = qm := ⟨_, rfl⟩
      rw [hqd] at hcell hlt
      rw [hqm] at HE hkm
      have e1 : (q : Int) / 64 = (qd : Int) := by omega
      have e2 : (q : Int) % 64 = (qm : Int) := by omega
      obtain ⟨x, hx⟩ : ∃ x, d / 2 ^ qm = x := ⟨_, rfl⟩
      have hxl : x < 18446744073709551616 := by rw [← hx]; exact Nat.lt_of_le_of_lt (Nat.div_le_self _ _) hdw
      have e3 : (d : Int) / 2 ^ qm = (x : Int) := by rw [shr_int, hx]
      have HX := Lib.hid (show d.testBit qm = decide (x % 2 = 1) by rw [Nat.testBit_eq_decide_div_mod_eq, hx])
      have e4 := and_one hxl
      clear hqd hqm hx hd
      have HY := Lib.hid (show isB ws q = ((x : Int) % 2 == 1) by rw [HE.out, HX.out, Bool.eq_iff_iff]; simp; omega)
      go_enter Tryd.func27, Tryd.ntmps27
      go_wp2_with fail
      go_ret
      exact ⟨ret_b HY.out.symm, rfl⟩
    · have HY := Lib.hid (show isB ws q = false by rw [isB_nat]; exact has_out (by omega))
      obtain ⟨qd, hqd⟩ : ∃ qd, q / 64 = qd := ⟨_, rfl⟩
      have e1 : (q : Int) / 64 = (qd : Int) := by omega
      rw [hqd] at hlt
      clear hqd
      go_enter Tryd.func27, Tryd.ntmps27
      go_wp2_with fail
      go_ret
      exact ⟨ret_b HY.out.symm, rfl⟩
set_option maxHeartbeats 2000000 in
theorem hasr_any (v : Value) (ws : List Nat) (r : Int) (w : World) (h : Rw w v ws) (hr : r < 9223372036854775808) (hr0 : -9223372036854775808 ≤ r) :
    Calls Tryd.prog 36 #[v, .int .i64 r] w fun e w' => e = .returned (.bool (isB ws r)) ∧ w = w' := by
  have hw := h.2
  obtain ⟨p, c, rfl, hc, hm, hp⟩ := rw_form h
  have HP := Lib.hid hp
  have HW := Lib.hid hw
  clear hp h hw
  by_cases h0 : r < 0
  · have HN := Lib.hid (isB_neg (ws := ws) h0)
    have h0' : ¬ 0 ≤ r := by omega
    go_enter Tryd.func36, Tryd.ntmps36
    go_wp2
    go_ret
    exact ⟨ret_b HN.out.symm, rfl⟩
  · obtain ⟨q, rfl⟩ := Int.eq_ofNat_of_zero_le (by omega : 0 ≤ r)
    have hq0 : (0 : Int) ≤ (q : Int) := by omega
    by_cases hlt : q / 64 < ws.length
    · obtain ⟨b, off, rfl, hcell⟩ := HP.out _ hlt
      obtain ⟨d, hd⟩ : ∃ d, ws.getD (q / 64) 0 = d := ⟨_, rfl⟩
      have hdw := HW.out (q / 64)
      rw [hd] at hcell hdw
      have hkm : q % 64 < 64 := Nat.mod_lt _ (by decide)
      have HE := Lib.hid (show isB ws q = d.testBit (q % 64) by rw [isB_nat]; unfold hasW; rw [hd])
      obtain ⟨qd, hqd⟩ : ∃ qd, q / 64 = qd := ⟨_, rfl⟩
      obtain ⟨qm, hqm⟩ : ∃ qm, q % 64 = qm := ⟨_, rfl⟩
      rw [hqd] at hcell hlt
      rw [hqm] at HE hkm
      have e1 : (q : Int) / 64 = (qd : Int) := by omega
      have e2 : (q : Int) % 64 = (qm : Int) := by omega
      obtain ⟨x, hx⟩ : ∃ x, d / 2 ^ qm = x := ⟨_, rfl⟩
      have hxl : x < 18446744073709551616 := by rw [← hx]; exact Nat.lt_of_le_of_lt (Nat.div_le_self _ _) hdw
      have e3 : (d : Int) / 2 ^ qm = (x : Int) := by rw [shr_int, hx]
      have HX := Lib.hid (show d.testBit qm = decide (x % 2 = 1) by rw [Nat.testBit_eq_decide_div_mod_eq, hx])
      have e4 := and_one hxl
      clear hqd hqm hx hd
      have HY := Lib.hid (show isB ws q = ((x : Int) % 2 == 1) by rw [HE.out, HX.out, Bool.eq_iff_iff]; simp; omega)
      go_enter Tryd.func36, Tryd.ntmps36
      go_wp2_with fail
      go_ret
      exact ⟨ret_b HY.out.symm, rfl⟩
    · have HY := Lib.hid (show isB ws q = false by rw [isB_nat]; exact has_out (by omega))
      obtain ⟨qd, hqd⟩ : ∃ qd, q / 64 = qd := ⟨_, rfl⟩
      have e1 : (q : Int) / 64 = (qd : Int) := by omega
      rw [hqd] at hlt
      clear hqd
      go_enter Tryd.func36, Tryd.ntmps36
      go_wp2_with fail
      go_ret
      exact ⟨ret_b HY.out.symm, rfl⟩
/-- What Live answers, as rows of words. -/
def LiveR (F : FuncD) (w : World) (e : Ending) (B : World) : Prop :=
  if soundB F then ∃ v L, e = .returned (.tuple #[v, .int .i64 0]) ∧ Rr B v L ∧ OkL (grOf F) L ∧ (∀ y, y < F.ins.length → ∀ q, hasW (L.getD y []) q = true ↔ Lv (grOf F) y q) ∧ Below w.heap.size w B
  else e = .returned (.tuple #[.slice none 0 0, .int .i64 3]) ∧ Below w.heap.size w B
theorem live_rd (r : RestV) (F : FuncD) (iv rv : Value) (w : World) (hU : Us w) (hI : Ii w iv F.ins) (hR : Rg w rv F.regions) (hnn : F.ins.length ≤ 1048576) :
    Calls Tryd.prog 23 #[funcV r F iv rv] w (LiveR F w) := by
  refine (live_any r F iv rv w hU hI hR hnn).mono fun e B h => ?_
  unfold LivePost at h
  unfold LiveR
  by_cases hs : soundB F = true
  · rw [if_pos hs] at h ⊢
    obtain ⟨Y, tg, FV, FF, wv, L, wt, work, sc, rfl, hlk, hok, hlv, hb⟩ := h
    have hn : L.length = F.ins.length := hok.len
    have hss : (grOf F).s ≤ 1024 := by
      have := (soundF hs).r1
      show (F.regs.toNat + 63) / 64 ≤ 1024
      omega
    refine ⟨_, L, rfl, ⟨_, F.ins.length, by rw [hn], by omega, fun i hi => ?_⟩, hok, hlv, hb⟩
    rw [hn] at hi
    have hli := hlk.live (fun e => by cases e)
    have hro := hlk.row i hi (fun e => by cases e)
    have hrow := hok.row i hi
    refine ⟨Y.bL, 0, _, rfl, hli.cell (i := 0 + i) (by rw [Nat.zero_add]; exact liveC_at Y hi hi), ?_⟩
    have h2 := hro.rw_ hrow.lt (by have := hrow.len; omega)
    rw [hrow.len] at h2
    exact h2
  · rw [if_neg hs] at h ⊢
    exact h
def LiveY (F : FuncD) (w : World) (e : Ending) (B : World) : Prop :=
  ∃ v L, e = .returned (.tuple #[v, .int .i64 0]) ∧ Rr B v L ∧ OkL (grOf F) L ∧ (∀ y, y < F.ins.length → ∀ q, hasW (L.getD y []) q = true ↔ Lv (grOf F) y q) ∧ Below w.heap.size w B
theorem live_yes (r : RestV) (F : FuncD) (iv rv : Value) (hs : soundB F = true) (hnn : F.ins.length ≤ 1048576) (w : World) (hU : Us w) (hI : Ii w iv F.ins) (hR : Rg w rv F.regions) :
    Calls Tryd.prog 23 #[funcV r F iv rv] w (LiveY F w) :=
  (live_rd r F iv rv w hU hI hR hnn).mono fun e B h => by
    unfold LiveR at h
    rw [if_pos hs] at h
    exact h
theorem live_no (r : RestV) (F : FuncD) (iv rv : Value) (hs : soundB F = false) (hnn : F.ins.length ≤ 1048576) (w : World) (hU : Us w) (hI : Ii w iv F.ins) (hR : Rg w rv F.regions) :
    Calls Tryd.prog 23 #[funcV r F iv rv] w fun e B => e = .returned (.tuple #[.slice none 0 0, .int .i64 3]) ∧ Below w.heap.size w B :=
  (live_rd r F iv rv w hU hI hR hnn).mono fun e B h => by
    unfold LiveR at h
    rw [if_neg (by rw [hs]; simp)] at h
    exact h
end Go.Proofs.YtnniohimbmnapaaDoor
