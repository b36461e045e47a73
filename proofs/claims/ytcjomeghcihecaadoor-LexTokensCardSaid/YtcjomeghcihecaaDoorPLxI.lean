/- Layer 4: the indentation of a line. -/
import Derived.Test.YtcjomeghcihecaaDoorPLxC
namespace Go.Proofs.YtcjomeghcihecaaDoor
open Go Go.ChangeShapes Go.WideShapes Go.ChangeAt Go.RowKit Go.PlainAid Go.Maps
set_option linter.unusedVariables false
set_option linter.unusedSimpArgs false
theorem infoIntL : (Tryd.prog.info? 3).map (fun i => (i.zero, i.size, i.bytes)) = some (some (.int .i64 0), 1, 8) := by kernel_rfl
theorem src_oneL {w : World} {b : Nat} {u : Value} {T : TypeId} {c : Nat} (hb : b = w.heap.size) : Src (w.alloc (.cells #[u] T)) (.slice (some ⟨b, 0, none⟩) 1 c) 1 [u] := src_top (cs := #[u]) hb
/-- What is told of a line that is wrong: nothing but where. -/
def BadP (D : DataW Unit) (w w' : World) (B x mb kb ln : Nat) : Prop := ∃ σ, LX D w' B x mb kb σ ∧ σ.ln = ln ∧ Below B w w'
set_option maxRecDepth 100000 in
set_option maxHeartbeats 4000000 in
theorem indent_any {D : DataW Unit} {w : World} {B x mb kb : Nat} {σ : LxD} (h : LX D w B x mb kb σ) (n : Nat) (hn : n ≤ 20000) (hop : OpOk σ.op) (hfit : ∀ t ∈ σ.op, t ≤ 20000) (hol : σ.out.length + σ.op.length ≤ 900000) :
    Calls Tryd.prog 32 #[.pointer (some ⟨x, 0, none⟩), .int .i64 n] w fun e w' =>
      match indD σ.ln n σ.op with
      | some q => e = .returned (.int .i64 0) ∧ LX D w' B x mb kb { σ with op := q.2, out := σ.out ++ q.1 } ∧ Below B w w'
      | none => e = .returned (.int .i64 21) ∧ BadP D w w' B x mb kb σ.ln := by
  obtain ⟨s, a, ln, d, op, out⟩ := σ
  simp only at h hop hol hfit ⊢
  obtain ⟨t, r, rfl⟩ : ∃ t r, op = t :: r := by
    cases op with
    | nil => exact absurd hop.len (by simp)
    | cons t r => exact ⟨t, r, rfl⟩
  obtain ⟨ov, tv, hv⟩ := h
  obtain ⟨g, c, rfl, hcell, hgc⟩ := hv.top rfl
  have HV := Lib.hid hv
  have HOP := Lib.hid hop
  have HFIT := Lib.hid hfit
  have HOL := Lib.hid hol
  have c4 := hv.c.c4
  have f4 := hv.c.f 4
  have hxl := hv.c.lt
  have hbx := hv.bx
  have hox := hv.ox
  have hrl : r.length < 900000 := by simp only [List.length_cons] at hol; omega
  have ht0 : 0 ≤ t := by have := hop.head; simpa using this
  have ht1 : t ≤ 20000 := hfit t (by simp)
  have e1 : IntKind.i64.wrap (((r.length + 1 : Nat) : Int) - 1) = (r.length : Int) := by rw [i64_in (by omega) (by omega)]; omega
  have hrz : (r.length : Int) < ((r.length + 1 : Nat) : Int) := by omega
  have hol1 : out.length ≤ 900000 := by simp only [List.length_cons] at hol; omega
  by_cases hc : t < (n : Int)
  · have hcz : (n : Int) > t := hc
    have hind : indD ln n (t :: r) = some ([⟨2, ln, []⟩], (n : Int) :: t :: r) := by unfold indD; rw [List.headD_cons, if_pos hc]
    rw [hind]
    simp only
    obtain ⟨L, hL⟩ : ∃ L, (t :: r).reverse.map (Value.int .i64) = L := ⟨_, rfl⟩
    have HO := Lib.hid (show w.ownsRow B 3 1 (.slice (some ⟨g, 0, none⟩) (r.length + 1) c) (r.length + 1) L by
      have := hv.o
      unfold OW at this
      rw [hL] at this
      simpa using this)
    have HL := Lib.hid hL
    clear hv hop hfit hol hind hL
    go_enter Tryd.func32, Tryd.ntmps32
    go_wp2_with fail
    go_quiet (fail)
    go_wp2_with (first
      | (at_builtin; refine wpList_app rfl (.tmp 23) (.tmp 25) rfl Tryd.underlying40 infoIntL rfl rfl (v := .slice (some ⟨g, 0, none⟩) (r.length + 1) c) (base := B) (n := r.length + 1) (m := 1) (xs := L) (news := [.int .i64 n]) (owns_of HO.out fun b hb => (Below.heap_alloc _ _ _ (by simpa using (owns_lt HO.out hb).2)).trans rfl) rfl (by exact src_oneL (by first | rfl | (simp; done))) (by simp [Value.oneCell']) (by unfold maxLen; omega) (by omega) (by simp; omega) ?_; intro v' w5 hap; obtain ⟨p5, c5, rfl⟩ := owns_form hap.own; have hap' := hap; have hkb : w5.heap[x]? = w.heap[x]? := (hap.grown.block x (by simp; omega) (fun e => hox e.symm)).trans (Below.heap_alloc _ _ _ (by simpa using hxl)); have y4 : w5.cell? ⟨x, 4, none⟩ = some (.slice (some ⟨g, 0, none⟩) (r.length + 1) c) := (World.cell?_of_block (a := ⟨x, 4, none⟩) hkb).trans c4; have g4 : w5.frozen? ⟨x, 4, none⟩ = false := (World.frozen?_of_block (a := ⟨x, 4, none⟩) hkb).trans f4; have HAP := Lib.hid hap; clear hap hap' hkb)
      | fail)
    have hput := (HV.out.keep (drew_below _ w nq)).putO (w := w.drewN nq) (n := n) (o := .cells #[.int .i64 n] 3) (w' := w5) (ov' := .slice p5 (r.length + 1 + 1) c5) (by
      have h1 := HAP.out
      rw [← HL.out] at h1
      simpa using h1)
    have HPUT := Lib.hid hput
    clear hput
    refine (put_any (D := D) (B := B) (mb := mb) (kb := kb) (σ := ⟨s, a, ln, d, (n : Int) :: t :: r, out⟩) ⟨_, _, HPUT.out.1⟩ (Nat.le_trans hol1 (by decide)) 2 []).mono ?_
    rintro e w6 ⟨rfl, hx6, hb6⟩
    have HX6 := Lib.hid hx6
    have HB6 := Lib.hid (((drew_below B w nq).trans HPUT.out.2).trans hb6)
    clear hx6 hb6
    go_wp2_with fail
    go_ret
    exact ⟨rfl, HX6.out, HB6.out⟩
  · have hcz : ¬ ((n : Int) > t) := hc
    have hcl := fun (wx : World) (hx : LX D wx B x mb kb ⟨s, a, ln, d, t :: r, out⟩) => closeTo_any (D := D) (B := B) (mb := mb) (kb := kb) (σ := ⟨s, a, ln, d, t :: r, out⟩) hx n hop hfit hol
    obtain ⟨t2, r2, hp, ht2⟩ := popD_top hop (n := (n : Int)) (by omega)
    have hind : indD ln n (t :: r) = if t2 = (n : Int) then some (outsD (r.length + 1 - (r2.length + 1)) ln, t2 :: r2) else none := by
      unfold indD
      rw [List.headD_cons, if_neg hc, hp]
      rfl
    rw [hind]
    have hpl := popD_len (n : Int) (t :: r)
    have hpo := hop.pop (n := (n : Int)) (by omega)
    rw [hp] at hpl hpo
    simp only [List.length_cons] at hpl
    have h20 : 0 ≤ t2 := by have := hpo.head; simpa using this
    have HCL := Lib.hid hcl
    have HP := Lib.hid hp
    clear hv hop hfit hol hind hcl hp hpo
    by_cases h2 : t2 = (n : Int)
    · rw [if_pos h2]
      simp only
      have h2b : (t2 == (n : Int)) = true := by simpa using h2
      go_enter Tryd.func32, Tryd.ntmps32
      go_wp2_with fail
      go_quiet (fail)
      go_wp2_with fail
      refine (HCL.out _ ⟨_, _, HV.out.keep (drew_below _ w nq)⟩).mono ?_
      rintro e w6 ⟨rfl, hx6, hb6⟩
      rw [HP.out] at hx6
      simp only [List.length_cons] at hx6
      have HX6 := Lib.hid hx6
      have HB6 := Lib.hid ((drew_below B w nq).trans hb6)
      obtain ⟨ov6, tv6, hv6⟩ := hx6
      obtain ⟨g6, c6, rfl, hcell6, hgc6⟩ := hv6.top rfl
      have y4 := hv6.c.c4
      have e6 : IntKind.i64.wrap (((r2.length + 1 : Nat) : Int) - 1) = (r2.length : Int) := by rw [i64_in (by omega) (by omega)]; omega
      have hrz6 : (r2.length : Int) < ((r2.length + 1 : Nat) : Int) := by omega
      clear hv6 hb6 c4 hcell
      go_wp2_with fail
      go_quiet (fail)
      go_wp2_with fail
      go_ret
      exact ⟨rfl, HX6.out.drew _, HB6.out.trans (drew_below _ _ _)⟩
    · rw [if_neg h2]
      simp only
      have h2b : (t2 == (n : Int)) = false := by simpa using h2
      go_enter Tryd.func32, Tryd.ntmps32
      go_wp2_with fail
      go_quiet (fail)
      go_wp2_with fail
      refine (HCL.out _ ⟨_, _, HV.out.keep (drew_below _ w nq)⟩).mono ?_
      rintro e w6 ⟨rfl, hx6, hb6⟩
      rw [HP.out] at hx6
      simp only [List.length_cons] at hx6
      have HX6 := Lib.hid hx6
      have HB6 := Lib.hid ((drew_below B w nq).trans hb6)
      obtain ⟨ov6, tv6, hv6⟩ := hx6
      obtain ⟨g6, c6, rfl, hcell6, hgc6⟩ := hv6.top rfl
      have y4 := hv6.c.c4
      have e6 : IntKind.i64.wrap (((r2.length + 1 : Nat) : Int) - 1) = (r2.length : Int) := by rw [i64_in (by omega) (by omega)]; omega
      have hrz6 : (r2.length : Int) < ((r2.length + 1 : Nat) : Int) := by omega
      clear hv6 hb6 c4 hcell
      go_wp2_with fail
      go_quiet (fail)
      go_wp2_with fail
      go_ret
      exact ⟨rfl, _, HX6.out.drew _, rfl, HB6.out.trans (drew_below _ _ _)⟩
end Go.Proofs.YtcjomeghcihecaaDoor
