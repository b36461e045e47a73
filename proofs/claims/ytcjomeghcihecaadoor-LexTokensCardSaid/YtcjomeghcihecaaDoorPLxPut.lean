/- Layer 4: a token is put. -/
import Derived.Test.YtcjomeghcihecaaDoorPLxH
namespace Go.Proofs.YtcjomeghcihecaaDoor
open Go Go.ChangeShapes Go.WideShapes Go.ChangeAt Go.RowKit Go.PlainAid Go.Maps
set_option linter.unusedVariables false
set_option linter.unusedSimpArgs false
theorem infoTok : (Tryd.prog.info? 33).map (fun i => (i.zero, i.size, i.bytes)) = some (some (.agg #[.int .i64 0, .int .i64 0, .string ⟨#[]⟩]), 3, 32) := by kernel_rfl
theorem tok_one {t : Tk} : ∀ u ∈ flatT [t], u.oneCell' = true := by
  intro u hu
  simp only [flatT, List.mem_cons, List.not_mem_nil, or_false] at hu
  rcases hu with rfl | rfl | rfl <;> rfl
theorem owns_form {w : World} {B : Nat} {e : TypeId} {sz n : Nat} {v : Value} {xs : List Value} (h : w.ownsRow B e sz v n xs) : ∃ p c, v = .slice p n c := by
  rcases h.2 with ⟨rfl, rfl⟩ | ⟨g, cap, cur, rfl, _⟩
  · exact ⟨none, 0, rfl⟩
  · exact ⟨_, _, rfl⟩
attribute [local go_sem] Oper.semAt_some
section
variable {P : Program} {w : World} {base : Nat} {t ty e : TypeId} {z : Value} {sz bytes : Nat} {v x : Value} {n m : Nat} {xs news : List Value}
theorem wpIn_appS {o : Oper} {a : Act} {K : Act → World → Prop} {Q : Exit → Act → World → Prop} (s y : Operand) (ho : o.op = .call { callee := .builtin .append, args := #[s, y], argTypes := #[t, t] })
    (ht : P.underlying t = some (.slice e)) (hinfo : (P.info? e).map (fun i => (i.zero, i.size, i.bytes)) = some (some z, sz, bytes)) (hz1 : z.cells.size = sz) (hsz0 : 0 < sz) (hv : a.eval s = v)
    (hown : w.ownsRow base e sz v n xs) (hx : a.eval y = x) (hs : SrcS sz w x m news) (h1 : ∀ u ∈ news, u.oneCell' = true) (h63 : n + m ≤ maxLen) (hbytes : (n + m) * bytes ≤ 140737488355328) (hbase : base ≤ w.heap.size)
    (h : ∀ v' w', ApdS sz w w' base e v v' (n + m) (xs ++ news) → K (a.put o.dst v') w') : o.wpIn Fence.wide 0 P a w K Q := by
  obtain ⟨v', w', hr, h2⟩ := run_appS (P := P) (ty := o.type) ht hinfo hz1 hsz0 hown hs h1 h63 hbytes hbase
  refine ⟨fun _ _ => trivial, ?_⟩
  rw [Fence.wide_round, Oper.semAt_none]
  simp [execOp, ho, resolve, invoke, builtin, hv, hx, hr, Result.andThen]
  exact h v' w' h2
theorem wpIn_appI {o : Oper} {a : Act} {K : Act → World → Prop} {Q : Exit → Act → World → Prop} (s y : Operand) (ho : o.op = .call { callee := .builtin .append, args := #[s, y], argTypes := #[t, t] })
    (ht : P.underlying t = some (.slice e)) (hinfo : (P.info? e).map (fun i => (i.zero, i.size, i.bytes)) = some (some z, 1, bytes)) (hz1 : z.cells.size = 1) (hv : a.eval s = v)
    (hown : w.ownsRow base e 1 v n xs) (hx : a.eval y = x) (hs : Src w x m news) (h1 : ∀ u ∈ news, u.oneCell' = true) (h63 : n + m ≤ maxLen) (hbytes : (n + m) * bytes ≤ 140737488355328) (hbase : base ≤ w.heap.size)
    (h : ∀ v' w', Apd w w' base e v v' (n + m) (xs ++ news) → K (a.put o.dst v') w') : o.wpIn Fence.wide 0 P a w K Q := by
  obtain ⟨v', w', hr, h2⟩ := run_app (P := P) (ty := o.type) ht hinfo hz1 hown hs h1 h63 hbytes hbase
  refine ⟨fun _ _ => trivial, ?_⟩
  rw [Fence.wide_round, Oper.semAt_none]
  simp [execOp, ho, resolve, invoke, builtin, hv, hx, hr, Result.andThen]
  exact h v' w' h2
end
set_option maxRecDepth 100000 in
set_option maxHeartbeats 4000000 in
theorem put_any {D : DataW Unit} {w : World} {B x mb kb : Nat} {σ : LxD} (h : LX D w B x mb kb σ) (hol : σ.out.length ≤ 1000000) (kd : Int) (tx : Bs) :
    Calls Tryd.prog 22 #[.pointer (some ⟨x, 0, none⟩), .int .i64 kd, .string (bsOf tx)] w fun e w' => e = .returned (.tuple #[]) ∧ LX D w' B x mb kb { σ with out := σ.out ++ [⟨kd, σ.ln, tx⟩] } ∧ Below B w w' := by
  obtain ⟨ov, tv, h⟩ := h
  obtain ⟨s, a, ln, d, op, out⟩ := σ
  simp only at hol h ⊢
  have c2 := h.c.c2
  have c7 := h.c.c7
  have f7 := h.c.f 7
  have hxl := h.c.lt
  have hbx := h.bx
  have htx := h.tx
  have HT := Lib.hid h.t
  simp only at c2 c7 HT
  obtain ⟨pT, cT, rfl⟩ := owns_form HT.out
  have H := Lib.hid h
  clear h
  have hT : w.drew.cell? ⟨x, 7, none⟩ = some (.slice pT out.length cT) ∧ w.drew.cell? ⟨x, 2, none⟩ = some (.int .i64 ln) := ⟨c7, c2⟩
  obtain ⟨z1, z2⟩ := hT
  go_enter Tryd.func22, Tryd.ntmps22
  go_wp2_with fail
  refine wp_region_anyU (S := fun w' => w'.cell? ⟨x, 7, none⟩ = some (.slice pT out.length cT) ∧ w'.cell? ⟨x, 2, none⟩ = some (.int .i64 ln)) 16 (by kernel_rfl) ⟨by kernel_rfl, by kernel_rfl, by kernel_rfl, by kernel_rfl, by decide⟩ ⟨z1, z2⟩ ?_
  simp only [List.drop_succ_cons, List.drop_zero]
  intro hh inv hS0
  refine anyU_take hh inv (i := 0) (v := ?_) rfl (by decide) (by kernel_rfl) (by kernel_rfl) (fun _ _ _ h => h) (Or.inl ⟨by rfl, ?_⟩) (by assumption) ?_
  rotate_left 1
  · intro w' hSw
    (try dsimp only at hSw)
    go_simp
    (try with_reducible rfl)
  intro inv
  (try simp only [List.getElem_toArray, List.getElem_cons_succ, List.getElem_cons_zero, Act.put, List.setIfInBounds_toArray, List.set_cons_zero, List.set_cons_succ])
  refine anyU_take hh inv (i := 1) (v := ?_) rfl (by decide) (by kernel_rfl) (by kernel_rfl) (fun _ _ _ h => h) (Or.inl ⟨by rfl, ?_⟩) (by assumption) ?_
  rotate_left 1
  · intro w' hSw
    (try dsimp only at hSw)
    go_simp
    (try with_reducible rfl)
  intro inv
  (try simp only [List.getElem_toArray, List.getElem_cons_succ, List.getElem_cons_zero, Act.put, List.setIfInBounds_toArray, List.set_cons_zero, List.set_cons_succ])
  refine anyU_take hh inv (i := 2) (v := ?_) rfl (by decide) (by kernel_rfl) (by kernel_rfl) (fun _ _ _ h => h) (Or.inl ⟨by rfl, ?_⟩) (by assumption) ?_
  rotate_left 1
  · intro w' hSw
    (try dsimp only at hSw)
    go_simp
    (try with_reducible rfl)
  intro inv
  (try simp only [List.getElem_toArray, List.getElem_cons_succ, List.getElem_cons_zero, Act.put, List.setIfInBounds_toArray, List.set_cons_zero, List.set_cons_succ])
  refine anyU_take hh inv (i := 3) (v := ?_) rfl (by decide) (by kernel_rfl) (by kernel_rfl) (fun _ _ _ h => h) (Or.inl ⟨by rfl, ?_⟩) (by assumption) ?_
  rotate_left 1
  · intro w' hSw
    (try dsimp only at hSw)
    go_simp
    (try with_reducible rfl)
  intro inv
  (try simp only [List.getElem_toArray, List.getElem_cons_succ, List.getElem_cons_zero, Act.put, List.setIfInBounds_toArray, List.set_cons_zero, List.set_cons_succ])
  refine anyU_take hh inv (i := 4) (v := ?_) rfl (by decide) (by kernel_rfl) (by kernel_rfl) (fun _ _ _ h => h) (Or.inl ⟨by rfl, ?_⟩) (by assumption) ?_
  rotate_left 1
  · intro w' hSw
    (try dsimp only at hSw)
    go_simp
    (try with_reducible rfl)
  intro inv
  (try simp only [List.getElem_toArray, List.getElem_cons_succ, List.getElem_cons_zero, Act.put, List.setIfInBounds_toArray, List.set_cons_zero, List.set_cons_succ])
  refine anyU_take hh inv (i := 5) (v := ?_) rfl (by decide) (by kernel_rfl) (by kernel_rfl) (fun _ _ _ h => h) (Or.inl ⟨by rfl, ?_⟩) (by assumption) ?_
  rotate_left 1
  · intro w' hSw
    (try dsimp only at hSw)
    go_simp
    (try with_reducible rfl)
  intro inv
  (try simp only [List.getElem_toArray, List.getElem_cons_succ, List.getElem_cons_zero, Act.put, List.setIfInBounds_toArray, List.set_cons_zero, List.set_cons_succ])
  refine anyU_take hh inv (i := 6) (v := ?_) rfl (by decide) (by kernel_rfl) (by kernel_rfl) (fun _ _ _ h => h) (Or.inl ⟨by rfl, ?_⟩) (by assumption) ?_
  rotate_left 1
  · intro w' hSw
    (try dsimp only at hSw)
    go_simp
    (try with_reducible rfl)
  intro inv
  (try simp only [List.getElem_toArray, List.getElem_cons_succ, List.getElem_cons_zero, Act.put, List.setIfInBounds_toArray, List.set_cons_zero, List.set_cons_succ])
  refine anyU_take hh inv (i := 7) (v := ?_) rfl (by decide) (by kernel_rfl) (by kernel_rfl) (fun _ _ _ h => h) (Or.inl ⟨by rfl, ?_⟩) (by assumption) ?_
  rotate_left 1
  · intro w' hSw
    (try dsimp only at hSw)
    go_simp
    (try with_reducible rfl)
  intro inv
  (try simp only [List.getElem_toArray, List.getElem_cons_succ, List.getElem_cons_zero, Act.put, List.setIfInBounds_toArray, List.set_cons_zero, List.set_cons_succ])
  refine anyU_take hh inv (i := 8) (v := ?_) rfl (by decide) (by kernel_rfl) (by kernel_rfl) (fun _ _ _ h => h) (Or.inl ⟨by rfl, ?_⟩) (by assumption) ?_
  rotate_left 1
  · intro w' hSw
    (try dsimp only at hSw)
    go_simp
    (try with_reducible rfl)
  intro inv
  (try simp only [List.getElem_toArray, List.getElem_cons_succ, List.getElem_cons_zero, Act.put, List.setIfInBounds_toArray, List.set_cons_zero, List.set_cons_succ])
  refine anyU_take hh inv (i := 9) (v := ?_) rfl (by decide) (by kernel_rfl) (by kernel_rfl) (fun _ _ _ h => h) (Or.inl ⟨by rfl, ?_⟩) (by assumption) ?_
  rotate_left 1
  · intro w' hSw
    (try dsimp only at hSw)
    go_simp
    (try with_reducible rfl)
  intro inv
  (try simp only [List.getElem_toArray, List.getElem_cons_succ, List.getElem_cons_zero, Act.put, List.setIfInBounds_toArray, List.set_cons_zero, List.set_cons_succ])
  refine anyU_take hh inv (i := 10) (v := ?_) rfl (by decide) (by kernel_rfl) (by kernel_rfl) (fun _ _ _ h => h) (Or.inl ⟨by rfl, ?_⟩) (by assumption) ?_
  rotate_left 1
  · intro w' hSw
    (try dsimp only at hSw)
    go_simp
    (try with_reducible rfl)
  intro inv
  (try simp only [List.getElem_toArray, List.getElem_cons_succ, List.getElem_cons_zero, Act.put, List.setIfInBounds_toArray, List.set_cons_zero, List.set_cons_succ])
  refine anyU_take hh inv (i := 11) (v := ?_) rfl (by decide) (by kernel_rfl) (by kernel_rfl) (fun _ _ _ h => h) (Or.inl ⟨by rfl, ?_⟩) (by assumption) ?_
  rotate_left 1
  · intro w' hSw
    (try dsimp only at hSw)
    go_simp
    (try with_reducible rfl)
  intro inv
  (try simp only [List.getElem_toArray, List.getElem_cons_succ, List.getElem_cons_zero, Act.put, List.setIfInBounds_toArray, List.set_cons_zero, List.set_cons_succ])
  refine anyU_one inv (i := 12) rfl rfl (by kernel_rfl) (by decide) (fun inv KK hK => ?_)
  go_simp
  refine hK.out _ _ ⟨alloc_cell z1 _, alloc_cell z2 _⟩ (fun hHeld => ?_)
  clear hK KK
  (try simp only [List.getElem_toArray, List.getElem_cons_succ, List.getElem_cons_zero, Act.put, List.setIfInBounds_toArray, List.set_cons_zero, List.set_cons_succ])
  refine anyU_one inv (i := 13) rfl rfl (by kernel_rfl) (by decide) (fun inv KK hK => ?_)
  refine wpIn_appS (.tmp 10) (.tmp 18) rfl Tryd.underlying23 infoTok rfl (by decide) rfl (v := .slice pT out.length cT) (base := B) (n := out.length) (m := 1) (xs := flatT out) (news := flatT [⟨kd, ln, tx⟩]) (owns_of HT.out fun g hg => Below.heap_alloc _ _ _ (owns_lt HT.out hg).2) rfl (by exact srcS_top (by first | rfl | (simp; done)) rfl) tok_one (by unfold maxLen; omega) (by omega) (by simp; omega) ?_
  intro v' w5 hap
  obtain ⟨p7, c7', rfl⟩ := owns_form hap.own
  have hap' : ApdS 3 (w.drew.alloc (.cells #[.int .i64 kd, .int .i64 ln, .string (bsOf tx)] 33)) w5 B 33 (.slice pT out.length cT) (.slice p7 (out.length + 1) c7') (out.length + 1) (flatT out ++ flatT [⟨kd, ln, tx⟩]) := hap
  have hput := (H.out.keep (drew_below _ w 1)).putT (w := w.drew) (t := ⟨kd, ln, tx⟩) hap'
  have hkb : w5.heap[x]? = w.heap[x]? := (hap.grown.block x (by simp; omega) (fun e => htx e.symm)).trans (Below.heap_alloc _ _ _ hxl)
  have y7 : w5.cell? ⟨x, 7, none⟩ = some (.slice pT out.length cT) := (World.cell?_of_block (a := ⟨x, 7, none⟩) hkb).trans c7
  have y2 : w5.cell? ⟨x, 2, none⟩ = some (.int .i64 ln) := (World.cell?_of_block (a := ⟨x, 2, none⟩) hkb).trans c2
  have g7 : w5.frozen? ⟨x, 7, none⟩ = false := (World.frozen?_of_block (a := ⟨x, 7, none⟩) hkb).trans f7
  have HPUT := Lib.hid hput
  refine hK.out _ _ ⟨y7, y2⟩ (fun hHeld2 => ?_)
  clear hK KK hap hap' hput hkb
  (try simp only [List.getElem_toArray, List.getElem_cons_succ, List.getElem_cons_zero, Act.put, List.setIfInBounds_toArray, List.set_cons_zero, List.set_cons_succ])
  refine anyU_take hh inv (i := 14) (v := ?_) rfl (by decide) (by kernel_rfl) (by kernel_rfl) (fun _ _ _ h => h) (Or.inl ⟨by rfl, ?_⟩) (by assumption) ?_
  rotate_left 1
  · intro w' hSw
    (try dsimp only at hSw)
    go_simp
    (try with_reducible rfl)
  intro inv
  (try simp only [List.getElem_toArray, List.getElem_cons_succ, List.getElem_cons_zero, Act.put, List.setIfInBounds_toArray, List.set_cons_zero, List.set_cons_succ])
  refine anyU_take hh inv (i := 15) (v := ?_) rfl (by decide) (by kernel_rfl) (by kernel_rfl) (fun _ _ _ h => h) (Or.inl ⟨by rfl, ?_⟩) (by assumption) ?_
  rotate_left 1
  · intro w' hSw
    (try dsimp only at hSw)
    go_simp
    (try with_reducible rfl)
  intro inv
  (try simp only [List.getElem_toArray, List.getElem_cons_succ, List.getElem_cons_zero, Act.put, List.setIfInBounds_toArray, List.set_cons_zero, List.set_cons_succ])
  refine ⟨by kernel_rfl, ?_⟩
  gi_wp2
  go_wp2_with fail
  refine bodyPost_end (v := .tuple #[]) (by simp [results, Tryd.results22, go_sem]) rfl ⟨rfl, ⟨ov, _, HPUT.out.1⟩, (drew_below B w 1).trans HPUT.out.2⟩
end Go.Proofs.YtcjomeghcihecaaDoor
