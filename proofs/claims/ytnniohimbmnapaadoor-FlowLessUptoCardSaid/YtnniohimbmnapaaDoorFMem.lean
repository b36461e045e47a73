/- Layer 10: how a function lies in memory: rows of instructions and of regions; numbers in a range. -/
import Derived.Test.YtnniohimbmnapaaDoorFCode
namespace Go.Proofs.YtnniohimbmnapaaDoor
open Go.ChangeShapes Go.WideShapes Go.RowKit
set_option linter.unusedVariables false
set_option linter.unusedSimpArgs false
def At7 (w : World) (b o : Nat) (i : InsD) (lv : Value) : Prop :=
  w.cell? ⟨b, o, none⟩ = some (.int .i64 i.op) ∧ w.cell? ⟨b, o + 1, none⟩ = some (.int .i64 i.d) ∧ w.cell? ⟨b, o + 2, none⟩ = some (.int .i64 i.a) ∧ w.cell? ⟨b, o + 3, none⟩ = some (.int .i64 i.b) ∧
  w.cell? ⟨b, o + 4, none⟩ = some (.int .i64 i.t) ∧ w.cell? ⟨b, o + 5, none⟩ = some (.int .i64 i.k) ∧ w.cell? ⟨b, o + 6, none⟩ = some lv ∧ Ri w lv i.l ∧ i.l.length ≤ 17592186043904
theorem At7.keep {w w' : World} {b o : Nat} {i : InsD} {lv : Value} (h : At7 w b o i lv) (hb : Below w.heap.size w w') : At7 w' b o i lv := by
  obtain ⟨h0, h1, h2, h3, h4, h5, h6, h7, h8⟩ := h
  exact ⟨below_cell hb h0, below_cell hb h1, below_cell hb h2, below_cell hb h3, below_cell hb h4, below_cell hb h5, below_cell hb h6, h7.keep hb, h8⟩
def Ii (w : World) (v : Value) (is : List InsD) : Prop :=
  (∃ p : Option Addr, v = .slice p 0 0 ∧ is = []) ∨ ∃ b off c, v = .slice (some ⟨b, off, none⟩) is.length c ∧ is.length ≤ c ∧ is.length ≤ 2199023255552 ∧
    ∀ i, i < is.length → ∃ lv, At7 w b (off + i * 7) (is.getD i insZ) lv
theorem Ii.keep {w w' : World} {v : Value} {is : List InsD} (h : Ii w v is) (hb : Below w.heap.size w w') : Ii w' v is := by
  rcases h with h | ⟨b, off, c, rfl, h1, h2, h3⟩
  · exact .inl h
  · refine .inr ⟨b, off, c, rfl, h1, h2, fun i hi => ?_⟩
    obtain ⟨lv, h⟩ := h3 i hi
    exact ⟨lv, h.keep hb⟩
theorem ii_form {w : World} {v : Value} {is : List InsD} (h : Ii w v is) : ∃ p c, v = .slice p is.length c ∧ is.length ≤ c ∧ is.length ≤ 2199023255552 ∧
    (0 < is.length → ∃ b off, p = some ⟨b, off, none⟩ ∧ ∀ i, i < is.length → ∃ lv, At7 w b (off + i * 7) (is.getD i insZ) lv) := by
  rcases h with ⟨p, rfl, rfl⟩ | ⟨b, off, c, rfl, h1, h2, h3⟩
  · exact ⟨p, 0, rfl, by simp, by simp, fun h => by simp at h⟩
  · exact ⟨_, c, rfl, h1, h2, fun _ => ⟨b, off, rfl, h3⟩⟩
def At4 (w : World) (b o : Nat) (r : RegD) : Prop :=
  w.cell? ⟨b, o, none⟩ = some (.int .i64 r.lo) ∧ w.cell? ⟨b, o + 1, none⟩ = some (.int .i64 r.hi) ∧ w.cell? ⟨b, o + 2, none⟩ = some (.int .i64 r.to) ∧ w.cell? ⟨b, o + 3, none⟩ = some (.int .i64 r.d)
theorem At4.keep {w w' : World} {b o : Nat} {r : RegD} (h : At4 w b o r) (hb : Below w.heap.size w w') : At4 w' b o r := by
  obtain ⟨h0, h1, h2, h3⟩ := h
  exact ⟨below_cell hb h0, below_cell hb h1, below_cell hb h2, below_cell hb h3⟩
def Rg (w : World) (v : Value) (rs : List RegD) : Prop :=
  (∃ p : Option Addr, v = .slice p 0 0 ∧ rs = []) ∨ ∃ b off c, v = .slice (some ⟨b, off, none⟩) rs.length c ∧ rs.length ≤ c ∧ rs.length ≤ 4398046511104 ∧
    ∀ i, i < rs.length → At4 w b (off + i * 4) (rs.getD i regZ)
theorem Rg.keep {w w' : World} {v : Value} {rs : List RegD} (h : Rg w v rs) (hb : Below w.heap.size w w') : Rg w' v rs := by
  rcases h with h | ⟨b, off, c, rfl, h1, h2, h3⟩
  · exact .inl h
  · exact .inr ⟨b, off, c, rfl, h1, h2, fun i hi => (h3 i hi).keep hb⟩
theorem rg_form {w : World} {v : Value} {rs : List RegD} (h : Rg w v rs) : ∃ p c, v = .slice p rs.length c ∧ rs.length ≤ c ∧ rs.length ≤ 4398046511104 ∧
    (0 < rs.length → ∃ b off, p = some ⟨b, off, none⟩ ∧ ∀ i, i < rs.length → At4 w b (off + i * 4) (rs.getD i regZ)) := by
  rcases h with ⟨p, rfl, rfl⟩ | ⟨b, off, c, rfl, h1, h2, h3⟩
  · exact ⟨p, 0, rfl, by simp, by simp, fun h => by simp at h⟩
  · exact ⟨_, c, rfl, h1, h2, fun _ => ⟨b, off, rfl, h3⟩⟩
/-- What of a function's value none of these calls looks into. -/
structure RestV where
  name : ByteArray
  frees : Int
  gen : Bool
  bound : Int
  np : Option Addr
  nn : Nat
  nc : Nat
  cp : Option Addr
  cn : Nat
  cc : Nat
def funcV (r : RestV) (F : FuncD) (iv rv : Value) : Value :=
  .agg #[.string r.name, .int .i64 F.params, .int .i64 F.regs, .int .i64 r.frees, .bool r.gen, .int .i64 r.bound, .slice r.np r.nn r.nc, .slice r.cp r.cn r.cc, iv, rv]
/-- Are all numbers from 0 on below n? -/
def withinB (l : List Int) (n : Int) : Bool := l.all fun x => decide (0 ≤ x) && decide (x < n)
theorem readsD_len (i : InsD) : (readsD i).length ≤ 2 + i.l.length := by
  unfold readsD
  cases doesB i.op 2 <;> cases doesB i.op 4 <;> cases doesB i.op 8 <;> simp <;> omega
theorem writesD_len (i : InsD) : (writesD i).length ≤ 1 + i.l.length := by
  unfold writesD
  cases doesB i.op 1 <;> cases doesB i.op 16 <;> simp <;> omega
theorem goesD_len (i : InsD) (x : Int) : (goesD i x).length ≤ 2 := by
  unfold goesD
  cases doesB i.op 128 <;> cases doesB i.op 32 <;> simp
def inB (x n : Int) : Bool := decide (0 ≤ x) && decide (x < n)
set_option maxHeartbeats 1000000 in
theorem within_any (x n : Int) (w : World) : Calls Tryd.prog 45 #[.int .i64 x, .int .i64 n] w fun e w' => e = .returned (.bool (inB x n)) ∧ w = w' := by
  by_cases h0 : 0 ≤ x
  · by_cases h1 : x < n
    · have HK := Lib.hid (show inB x n = true by simp [inB, h0, h1])
      go_enter Tryd.func45, Tryd.ntmps45
      go_wp2
      go_ret
      exact ⟨ret_b HK.out.symm, rfl⟩
    · have HK := Lib.hid (show inB x n = false by simp [inB, h1])
      go_enter Tryd.func45, Tryd.ntmps45
      go_wp2
      go_ret
      exact ⟨ret_b HK.out.symm, rfl⟩
  · have HK := Lib.hid (show inB x n = false by simp [inB, h0])
    go_enter Tryd.func45, Tryd.ntmps45
    go_wp2
    go_ret
    exact ⟨ret_b HK.out.symm, rfl⟩
theorem withinB_no {l : List Int} {n : Int} {i : Nat} (hi : i < l.length) (h : inB (l.getD i 0) n = false) : withinB l n = false := by
  unfold withinB
  rw [List.all_eq_false]
  refine ⟨l.getD i 0, ?_, by unfold inB at h; rw [h]; decide⟩
  rw [List.getD_eq_getElem?_getD, List.getElem?_eq_getElem hi]; exact List.getElem_mem hi
theorem withinB_yes {l : List Int} {n : Int} (h : ∀ i, i < l.length → inB (l.getD i 0) n = true) : withinB l n = true := by
  unfold withinB
  rw [List.all_eq_true]
  intro x hx
  obtain ⟨i, hi, rfl⟩ := List.mem_iff_getElem.1 hx
  have := h i hi
  rwa [List.getD_eq_getElem?_getD, List.getElem?_eq_getElem hi] at this
set_option maxRecDepth 100000 in
set_option maxHeartbeats 1000000 in
theorem allwithin_any (u : Value) (l : List Int) (n : Int) (w : World) (h : Ri w u l) :
    Calls Tryd.prog 41 #[u, .int .i64 n] w fun e w' => e = .returned (.bool (withinB l n)) ∧ w = w' := by
  obtain ⟨p, c, rfl, hc, hm, hp⟩ := ri_form h
  have HP := Lib.hid hp
  clear hp h
  go_enter Tryd.func41, Tryd.ntmps41
  go_wp2
  go_loop [6, 9] (fun a s => ∃ i : Nat, s = .int .i64 i ∧ i ≤ l.length ∧ ∀ j, j < i → inB (l.getD j 0) n = true) (fun _ s => l.length - (intOf s).toNat)
  case atStart => exact ⟨0, rfl, Nat.zero_le _, fun j h => by omega⟩
  case round =>
    obtain ⟨i, rfl, hil, hno⟩ := hrel
    have HN := Lib.hid hno
    clear hno
    by_cases hlt : i < l.length
    · obtain ⟨b, off, rfl, hcell⟩ := HP.out (by omega)
      have hci := hcell i hlt
      obtain ⟨x, hx⟩ : ∃ x, l.getD i 0 = x := ⟨_, rfl⟩
      rw [hx] at hci
      have HXE := Lib.hid hx
      have hlz : (i : Int) < (l.length : Int) := by omega
      have HC := Lib.hid (within_any x n w)
      clear hcell hx
      cases hb : inB x n with
      | true =>
        rw [hb] at HC
        have HB := Lib.hid hb
        clear hb
        go_wp2_with (go_at_call 45; (with_reducible refine HC.out.mono ?_); rintro e w9 ⟨rfl, rfl⟩)
        go_round
        case rel => exact ⟨i + 1, by go_num, by omega, fun j h2 => by
          by_cases e : j = i
          · subst e; rw [HXE.out]; exact HB.out
          · exact HN.out j (by omega)⟩
        case measure => simp [intOf]; omega
      | false =>
        rw [hb] at HC
        have HY := Lib.hid (withinB_no (n := n) hlt (by rw [HXE.out]; exact hb))
        clear hb
        go_wp2_with (go_at_call 45; (with_reducible refine HC.out.mono ?_); rintro e w9 ⟨rfl, rfl⟩)
        go_ret
        exact ⟨ret_b HY.out.symm, rfl⟩
    · have hlz : ¬ (i : Int) < (l.length : Int) := by omega
      have HY := Lib.hid (withinB_yes (l := l) (n := n) fun j h1 => HN.out j (by omega))
      go_wp2
      go_ret
      exact ⟨ret_b HY.out.symm, rfl⟩
set_option maxRecDepth 100000 in
set_option maxHeartbeats 1000000 in
theorem inside_any (u : Value) (l : List Int) (n : Int) (w : World) (h : Ri w u l) :
    Calls Tryd.prog 46 #[u, .int .i64 n] w fun e w' => e = .returned (.bool (withinB l n)) ∧ w = w' := by
  obtain ⟨p, c, rfl, hc, hm, hp⟩ := ri_form h
  have HP := Lib.hid hp
  clear hp h
  go_enter Tryd.func46, Tryd.ntmps46
  go_wp2
  go_loop [5] (fun s => ∃ i : Nat, s = .int .i64 i ∧ i ≤ l.length ∧ ∀ j, j < i → inB (l.getD j 0) n = true) (fun s => l.length - (intOf s).toNat)
  case atStart => exact ⟨0, rfl, Nat.zero_le _, fun j h => by omega⟩
  case round =>
    obtain ⟨i, rfl, hil, hno⟩ := hrel
    have HN := Lib.hid hno
    clear hno
    by_cases hlt : i < l.length
    · obtain ⟨b, off, rfl, hcell⟩ := HP.out (by omega)
      have hci := hcell i hlt
      obtain ⟨x, hx⟩ : ∃ x, l.getD i 0 = x := ⟨_, rfl⟩
      rw [hx] at hci
      have HXE := Lib.hid hx
      have hlz : (i : Int) < (l.length : Int) := by omega
      clear hcell hx
      by_cases h0 : x < 0
      · have HY := Lib.hid (withinB_no (n := n) hlt (by rw [HXE.out]; unfold inB; simp; omega))
        go_wp2
        go_ret
        exact ⟨ret_b HY.out.symm, rfl⟩
      · by_cases h1 : n ≤ x
        · have HY := Lib.hid (withinB_no (n := n) hlt (by rw [HXE.out]; unfold inB; simp; omega))
          go_wp2
          go_ret
          exact ⟨ret_b HY.out.symm, rfl⟩
        · have HB := Lib.hid (show inB x n = true by unfold inB; simp; omega)
          go_wp2
          go_round
          case rel => exact ⟨i + 1, by go_num, by omega, fun j h2 => by
            by_cases e : j = i
            · subst e; rw [HXE.out]; exact HB.out
            · exact HN.out j (by omega)⟩
          case measure => simp [intOf]; omega
    · have hlz : ¬ (i : Int) < (l.length : Int) := by omega
      have HY := Lib.hid (withinB_yes (l := l) (n := n) fun j h1 => HN.out j (by omega))
      go_wp2
      go_ret
      exact ⟨ret_b HY.out.symm, rfl⟩
end Go.Proofs.YtnniohimbmnapaaDoor
