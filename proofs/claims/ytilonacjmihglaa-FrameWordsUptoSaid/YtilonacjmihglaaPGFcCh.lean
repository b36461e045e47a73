/- A chain of words, plainly: one behind another, as long as each is there and new. Layer 20: Chain. Layer 20: the document's Chain. -/
import Derived.Maps.Views
import Derived.Maps.Own
import Derived.Test.YtilonacjmihglaaPFcWd
import Derived.Test.YtilonacjmihglaaPGSlCl
import Derived.Maps.OwnOps
import Derived.Carry
import Derived.Test.YtilonacjmihglaaPGFcIs
namespace Go.Proofs.Ytilonacjmihglaa
section
open Go
set_option linter.unusedVariables false
set_option linter.unusedSimpArgs false
def chn (p : Int → Bool) (nx : Int → Int) : Nat → List Int → Int → List Int
  | 0, l, _ => l
  | n + 1, l, f => if (p f && !decide (f ∈ l)) = true then chn p nx n (l ++ [f]) (nx f) else l
theorem nodup_le : ∀ (N : Nat) (l : List Nat), l.Nodup → (∀ x ∈ l, x < N) → l.length ≤ N := by
  intro N
  induction N with
  | zero =>
    intro l _ h
    cases l with
    | nil => simp
    | cons a l => exact absurd (h a (by simp)) (by omega)
  | succ N ih =>
    intro l hn h
    by_cases hm : N ∈ l
    · have h1 := ih (l.erase N) (hn.erase N) (fun x hx => by
        have h2 := h x (List.mem_of_mem_erase hx)
        have h3 : x ≠ N := fun e => by subst e; exact (List.Nodup.not_mem_erase hn) hx
        omega)
      rw [List.length_erase_of_mem hm] at h1
      omega
    · have h1 := ih l hn (fun x hx => by
        have h2 := h x hx
        have h3 : x ≠ N := fun e => by subst e; exact hm hx
        omega)
      omega
/-- What holds while a chain is gone along: l is what was met, f the next word. -/
structure CI (p : Int → Bool) (nx : Int → Int) (N : Nat) (f0 : Int) (l : List Int) (f : Int) : Prop where
  nd : l.Nodup
  all : ∀ x ∈ l, p x = true
  eq : chn p nx (N + 1 - l.length) l f = chn p nx (N + 1) [] f0
theorem CI.start (p : Int → Bool) (nx : Int → Int) (N : Nat) (f0 : Int) : CI p nx N f0 [] f0 := ⟨List.nodup_nil, (fun x h => by cases h), rfl⟩
theorem CI.len {p : Int → Bool} {nx : Int → Int} {N : Nat} {f0 f : Int} {l : List Int} (h : CI p nx N f0 l f) (hp : ∀ x, p x = true → 0 ≤ x ∧ x % 4 = 0 ∧ x / 4 < (N : Int)) : l.length ≤ N := by
  have h1 := nodup_le N (l.map (fun x => (x / 4).toNat)) (by
    rw [List.Nodup, List.pairwise_map]
    refine List.Pairwise.imp_of_mem ?_ h.nd
    intro a b ha hb hab e
    have h2 := hp a (h.all a ha)
    have h3 := hp b (h.all b hb)
    exact hab (by omega)) (fun x hx => by
      rw [List.mem_map] at hx
      obtain ⟨y, hy, rfl⟩ := hx
      have h2 := hp y (h.all y hy)
      omega)
  rwa [List.length_map] at h1
theorem CI.step {p : Int → Bool} {nx : Int → Int} {N : Nat} {f0 f : Int} {l : List Int} (h : CI p nx N f0 l f) (hl : l.length ≤ N) (h1 : p f = true) (h2 : ¬ f ∈ l) : CI p nx N f0 (l ++ [f]) (nx f) := by
  refine ⟨?_, fun x hx => ?_, ?_⟩
  · rw [List.nodup_append]
    refine ⟨h.nd, by simp, fun a ha b hb => ?_⟩
    simp at hb
    intro e
    exact h2 (by rw [← hb, ← e]; exact ha)
  · rw [List.mem_append] at hx
    rcases hx with hx | hx
    · exact h.all x hx
    · simp at hx; rw [hx]; exact h1
  · rw [← h.eq, show N + 1 - l.length = (N - l.length) + 1 by omega, List.length_append, List.length_singleton, show N + 1 - (l.length + 1) = N - l.length by omega]
    conv => rhs; unfold chn
    rw [if_pos (by simp [h1, h2])]
theorem CI.stop {p : Int → Bool} {nx : Int → Int} {N : Nat} {f0 f : Int} {l : List Int} (h : CI p nx N f0 l f) (hl : l.length ≤ N) (h1 : p f = false ∨ f ∈ l) : chn p nx (N + 1) [] f0 = l := by
  rw [← h.eq, show N + 1 - l.length = (N - l.length) + 1 by omega]
  unfold chn
  rw [if_neg]
  rcases h1 with h1 | h1
  · simp [h1]
  · simp [h1]
/-- A map that tells which words were met. -/
def Seen (D : DataW Unit) (l : List Int) : Prop := Go.Maps.IsMap D ∧ ∀ x : Int, D.atKey (.int .u64 x) (.lit (.int .i64 0)) = .lit (.int .i64 (if x ∈ l then 1 else 0))
theorem Seen.start : Seen (.map []) [] := ⟨Go.Maps.isMap_empty, fun x => by simp [DataW.atKey]⟩
theorem Seen.put {D : DataW Unit} {l : List Int} (h : Seen D l) (f : Int) : Seen (D.put (.int .u64 f) (.lit (.int .i64 1))) (l ++ [f]) := by
  refine ⟨h.1.put _ _, fun x => ?_⟩
  by_cases e : x = f
  · subst e
    rw [Go.Maps.atKey_put_same h.1 (by trivial)]
    simp
  · rw [Go.Maps.atKey_put_other (by intro h; injection h with _ h; exact e h), h.2]
    simp [e]
end
section
open Go Go.ChangeShapes Go.WideShapes Go.ChangeAt Go.RowKit
open Go.Maps (Keyed int_keyed keyOf_int_mk)
set_option linter.unusedVariables false
set_option linter.unusedSimpArgs false
theorem wpList_lookupG {H : Type} {P : Program} (w : World) {ops : Array Oper} {rest : List Oper} {o : Oper} {a : Act} {Q : Exit → Act → World → Prop}
    (hwant : Region.wanted o (yielded ops a.tmps) = true) (m x : Operand) (t : TypeId) (hop : o.op = Op.lookup t m x false)
    (k e : TypeId) (q : IntKind) (K : Keyed P k) (ht : P.underlying t = some (.map k e)) (he : P.underlying e = some (.int q)) (hz : (zeroValue e).run P w = .ok (.int q 0) w) (b n : Nat) (D : DataW H)
    (hm : a.eval m = .map (some b)) (hown : w.ownsMap P k (Go.plainElem P e) b n D) (key : Value) (kl : Lit) (hx : a.eval x = key) (hkey : keyOf P k key = some kl)
    (hK : ∀ c : Int, D.atKey kl (.lit (.int q 0)) = .lit (.int q c) → (Lit.int q c).wf = true → wpList P ops Q rest (a.put o.dst (.int q c)) w) :
    wpList P ops Q (o :: rest) a w := by
  unfold wpList
  rw [if_pos hwant]
  refine Or.inl ?_
  obtain ⟨c, hrun, hat, hwc⟩ := hown.lookup_int K ht he hz hkey
  unfold Oper.wp
  simp [execOp, hop, hm, hx, hrun, Result.andThen]
  exact hK c hat hwc
theorem lawU64 : Keyed Try.prog 29 := int_keyed Try.underlying29
theorem zeroI64 (w : World) : (zeroValue 3).run Try.prog w = .ok (.int .i64 0) w := by kernel_rfl
/-- The word behind a frame in its chain. -/
def nxtF (vs : List Int) (f : Int) : Int := gV vs (frA vs f) 1
def chainL (vs : List Int) (f : Int) : List Int := chn (isF vs) (nxtF vs) (vs.length + 1) [] f
theorem isF_bound {vs : List Int} {x : Int} (h : isF vs x = true) : 0 ≤ x ∧ x % 4 = 0 ∧ x / 4 < (vs.length : Int) := by
  obtain ⟨h1, h2, h3, h4, h5, h6⟩ := isF_in h
  have := there_in h2
  have := kind_nat h1
  refine ⟨?_, ?_, ?_⟩ <;> omega
theorem nxt_wf {vs : List Int} (hf : Fit vs) (f : Int) : (Lit.int .u64 (nxtF vs f)).wf = true := by
  unfold nxtF gV
  split
  · exact wfu_mk (hf _)
  · rfl
/-- What the rounds of Chain hold. -/
structure HJ (vs : List Int) (f0 : Int) (v : Value) (W : World) (B MB : Nat) (l : List Int) (f : Int) (out : Value) (A : World) : Prop where
  ci : CI (isF vs) (nxtF vs) vs.length f0 l f
  wf : (Lit.int .u64 f).wf = true
  row : OW .u64 29 A B out l
  map : ∃ D, A.ownsMap Try.prog 29 (Go.plainElem Try.prog 3) MB l.length D ∧ Seen D l
  bel : Below W.heap.size W A
theorem below_grown {w w' : World} (h : Below w.heap.size w w') (row : Option Nat) : w.grownBy w' row := ⟨h.os, h.tape, h.output, h.size, fun k hk _ => h.block k hk⟩
def slLen (v : Value) : Nat := match v with
  | .slice _ n _ => n
  | _ => 0
/-- What the rounds of Chain hold. -/
structure HK (vs : List Int) (f0 : Int) (p : Option Addr) (n c tn X : Nat) (W : World) (MB : Nat) (l : List Int) (f : Int) (out : Value) (A : World) : Prop where
  ci : CI (isF vs) (nxtF vs) vs.length f0 l f
  wf : (Lit.int .u64 f).wf = true
  row : OW .u64 29 A (MB + 1) out l
  map : ∃ D, A.ownsMap Try.prog 29 (Go.plainElem Try.prog 3) MB l.length D ∧ Seen D l
  bm : Bm A X p n c tn
  bel : Below W.heap.size W A
  sz : X < MB ∧ MB < A.heap.size ∧ W.heap.size ≤ X
theorem HK.keep {vs : List Int} {f0 : Int} {p : Option Addr} {n c tn X : Nat} {W : World} {MB : Nat} {l : List Int} {f : Int} {out : Value} {A B : World} (h : HK vs f0 p n c tn X W MB l f out A) (hb : Below A.heap.size A B) : HK vs f0 p n c tn X W MB l f out B := by
  obtain ⟨D, h1, h2⟩ := h.map
  exact ⟨h.ci, h.wf, h.row.keep hb, ⟨D, h1.kept (below_grown hb none) (by simp), h2⟩, h.bm.keep hb, h.bel.trans (hb.mono h.bel.size), ⟨h.sz.1, Nat.lt_of_lt_of_le h.sz.2.1 hb.size, h.sz.2.2⟩⟩
/-- Behind the store into the map, a box and the append. -/
theorem HK.push {vs : List Int} {f0 : Int} {p : Option Addr} {n c tn X : Nat} {W : World} {MB : Nat} {l : List Int} {f : Int} {out out' : Value} {A A1 A2 : World} {T : TypeId} (h : HK vs f0 p n c tn X W MB l f out A) (hl : l.length ≤ vs.length) (h1 : isF vs f = true) (h2 : ¬ f ∈ l) (hf : Fit vs)
    {D : DataW Unit} (hD : Seen D l) (hm : A1.ownsMap Try.prog 29 (Go.plainElem Try.prog 3) MB (l.length + 1) (D.put (.int .u64 f) (.lit (.int .i64 1)))) (hg : A.grownBy A1 (some MB))
    (ha : Apd (A1.alloc (.cells #[.int .u64 f] T)) A2 (MB + 1) 29 out out' (l.length + 1) (l.map (Value.int .u64) ++ [Value.int .u64 f])) : HK vs f0 p n c tn X W MB (l ++ [f]) (nxtF vs f) out' A2 := by
  have hlt := fun {g : Nat} (hg : out.ownBlock = some g) => OW.lt h.row hg
  have hs1 := hg.size
  have hs2 := ha.grown.size
  rw [World.size_alloc] at hs2
  obtain ⟨z1, z2, z3⟩ := h.sz
  have hX : A2.heap[X]? = A.heap[X]? := by
    rw [ha.grown.block X (by rw [World.size_alloc]; omega) (fun e => by have := (hlt e.symm).1; omega), Below.heap_alloc _ _ _ (by omega)]
    exact hg.block X (by omega) (by intro e; injection e with e; omega)
  refine ⟨h.ci.step hl h1 h2, nxt_wf hf f, own_apd ha, ⟨_, ?_, hD.put f⟩, ?_, ?_, ⟨z1, by omega, z3⟩⟩
  · rw [List.length_append, List.length_singleton]
    exact (hm.alloc _).kept ha.grown (fun e => by have := (hlt e.symm).1; omega)
  · exact ⟨(World.cell?_of_block (a := ⟨X, 0, none⟩) hX).trans h.bm.c0, (World.cell?_of_block (a := ⟨X, 1, none⟩) hX).trans h.bm.c1⟩
  · refine ((h.bel.grown hg h.bel.size (fun k hk => by injection hk with hk; omega)).alloc (by have := h.bel.size; omega) _).grown ha.grown (by rw [World.size_alloc]; have := h.bel.size; omega) (fun k hk => by have := (hlt hk).1; omega)
theorem ow_map {A A1 : World} {MB : Nat} {v : Value} {l : List Int} {T : TypeId} (h : OW .u64 T A (MB + 1) v l) (hg : A.grownBy A1 (some MB)) : OW .u64 T A1 (MB + 1) v l :=
  h.block fun g hb => hg.block g (h.lt hb).2 (fun e => by have := (h.lt hb).1; injection e with e; omega)
def ChPost (W : World) (vs : List Int) (f : Int) (e : Ending) (w' : World) : Prop := ∃ v, e = .returned (.tuple #[v, .int .i64 (regE vs f)]) ∧ Rd w' v (chainL vs f) ∧ Below W.heap.size W w'
theorem chain_none {vs : List Int} {f : Int} (h : isF vs f = false) : chainL vs f = [] := by
  unfold chainL chn
  rw [if_neg (by simp [h])]
theorem seen_gt (l : List Int) (f c : Int) (h : (if f ∈ l then (1 : Int) else 0) = c) : decide (0 < c) = decide (f ∈ l) := by
  by_cases e : f ∈ l
  · rw [if_pos e] at h; subst h; simp [e]
  · rw [if_neg e] at h; subst h; simp [e]
set_option maxRecDepth 100000 in
set_option maxHeartbeats 4000000 in
theorem chain_any (v : Value) (ws : List Int) (tn : Nat) (f : Int) (w : World) (hr : Rd w v ws) (hf : Fit ws) (ht : tn ≤ ws.length) (hm20 : ws.length ≤ 17592186043904) (hw : (Lit.int .u64 f).wf = true) :
    Calls Try.prog 41 #[.agg #[v, .int .i64 tn], .int .u64 f] w (ChPost w (ws.take tn) f) := by
  have HL := Lib.hid (fun (f : Int) (hw : (Lit.int .u64 f).wf = true) (wx : World) (hx : Below w.heap.size w wx) => frat_any v ws tn f wx (hr.keep hx) hf ht hw)
  have HI := Lib.hid (fun (a : Int) (wx : World) (hx : Below w.heap.size w wx) => item_any v ws tn a 1 wx (hr.keep hx) hf ht (by omega))
  have HFV := Lib.hid (Fit.take hf tn)
  obtain ⟨p, c, rfl, hm⟩ := rd_form0 hr
  have hvl : (ws.take tn).length ≤ 17592186043904 := by rw [List.length_take]; omega
  generalize hvs : ws.take tn = vs at *
  have hmm := @run_makeMap Try.prog
  clear hf hr hvs
  go_enter Try.func41, Try.ntmps41
  go_wp2_with fail
  generalize hw1 : World.alloc w _ = w1
  have HB1 := Lib.hid (show Below w.heap.size w w1 by rw [← hw1]; exact (Below.refl _ _).alloc (Nat.le_refl _) _)
  have HM1 := Lib.hid (show Bm w1 w.heap.size p ws.length c tn by rw [← hw1]; exact Bm.new _ _ _ _ _ _)
  have hs1 : w1.heap.size = w.heap.size + 1 := by rw [← hw1]; simp
  clear hw1
  refine (HL.out f hw _ HB1.out).mono ?_
  rintro e w2 ⟨rfl, hb2⟩
  have HB2 := Lib.hid (HB1.out.trans (hb2.mono HB1.out.size))
  have HM2 := Lib.hid (HM1.out.keep hb2)
  have hs2 : w.heap.size + 1 ≤ w2.heap.size := by have := hb2.size; omega
  clear hb2 HB1 HM1 hs1
  obtain ⟨N0, hN0⟩ : ∃ x, frN vs f = x := ⟨_, rfl⟩
  obtain ⟨A0, hA0⟩ : ∃ x, frA vs f = x := ⟨_, rfl⟩
  rw [hN0, hA0]
  clear hN0 hA0
  cases hF : isF vs f with
  | false =>
    have HE := Lib.hid (show regE vs f = 1 by unfold regE; rw [hF]; rfl)
    have HC := Lib.hid (chain_none hF)
    clear hF
    go_wp2_with fail
    go_ret2
    exact ⟨.slice none 0 0, by rw [HE.out]; rfl, by rw [HC.out]; exact .inl ⟨_, rfl, rfl⟩, HB2.out⟩
  | true =>
    have HE := Lib.hid (show regE vs f = 0 by unfold regE; rw [hF]; rfl)
    have HST := Lib.hid (fun (A : World) (hA : Below (w2.alloc (.map #[] 0)).heap.size (w2.alloc (.map #[] 0)) A) => (show HK vs f p ws.length c tn w.heap.size w w2.heap.size [] f (.slice none 0 0) (w2.alloc (.map #[] 0)) from
      ⟨CI.start _ _ _ _, hw, OW.nil _ _, ⟨_, World.ownsMap_made _ _ _ _, Seen.start⟩, HM2.out.keep ((Below.refl _ _).alloc (Nat.le_refl _) _), HB2.out.alloc HB2.out.size _, ⟨by omega, by simp, Nat.le_refl _⟩⟩).keep hA)
    obtain ⟨m0, m1⟩ := HM2.out
    clear hF
    go_wp2_with fail
    go_loopw [1, 9, 11, 12, 13] (fun fv ov _ _ _ wr => ∃ l f', fv = .int .u64 f' ∧ HK vs f p ws.length c tn w.heap.size w w2.heap.size l f' ov wr) (fun _ ov _ _ _ _ => vs.length + 1 - slLen ov)
    case atStart => exact ⟨[], f, rfl, HST.out _ (Below.refl _ _)⟩
    case round =>
      obtain ⟨l, f', rfl, hk⟩ := hrel
      have HK0 := Lib.hid hk
      obtain ⟨m0, m1⟩ := hk.bm
      have hwf := hk.wf
      obtain ⟨pl, cl, rfl⟩ := ow_form hk.row
      have hlen := hk.ci.len (fun x hx => isF_bound hx)
      clear hk
      go_wp2_with fail
      refine (HL.out f' hwf _ HK0.out.bel).mono ?_
      rintro e w4 ⟨rfl, hb4⟩
      have HK1 := Lib.hid (HK0.out.keep hb4)
      clear hb4 HK0
      obtain ⟨N1, hN1⟩ : ∃ x, frN vs f' = x := ⟨_, rfl⟩
      obtain ⟨A1, hA1⟩ : ∃ x, frA vs f' = x := ⟨_, rfl⟩
      rw [hN1, hA1]
      have HNX := Lib.hid (show gV vs A1 1 = nxtF vs f' by rw [← hA1]; rfl)
      clear hN1 hA1
      cases hF : isF vs f' with
      | false =>
        have HQ := Lib.hid (HK1.out.ci.stop hlen (.inl hF))
        clear hF
        go_wp2_with fail
        go_ret2
        exact ⟨.slice pl l.length cl, by rw [HE.out]; rfl, by rw [show chainL vs f = l from HQ.out]; exact HK1.out.row.rd (by omega), HK1.out.bel⟩
      | true =>
        have HF := Lib.hid hF
        clear hF
        obtain ⟨D, hown, hD⟩ := HK1.out.map
        have HD := Lib.hid hD
        obtain ⟨m0, m1⟩ := HK1.out.bm
        obtain ⟨cc, hrun, hat, _⟩ := hown.lookup_int (t := 107) lawU64 Try.underlying107 Try.underlying3 (zeroI64 _) (keyOf_int_mk Try.underlying29 hwf)
        have hcc : (if f' ∈ l then (1 : Int) else 0) = cc := by
          rw [HD.out.2 f'] at hat
          injection hat with hat
          injection hat
        clear hat
        by_cases hmem : f' ∈ l
        · have HQ := Lib.hid (HK1.out.ci.stop hlen (.inr hmem))
          rw [if_pos hmem] at hcc
          subst hcc
          go_wp2_with fail
          go_ret2
          exact ⟨.slice pl l.length cl, by rw [HE.out]; rfl, by rw [show chainL vs f = l from HQ.out]; exact HK1.out.row.rd (by omega), HK1.out.bel⟩
        · have HNM := Lib.hid hmem
          rw [if_neg hmem] at hcc
          subst hcc
          have HMP := Lib.hid (fun (T : TypeId) (u : Value) (w5 w6 : World) => HK.push (T := T) (out' := u) (A := w4) (A1 := w5) (A2 := w6) HK1.out hlen HF.out hmem HFV.out (D := D) hD)
          clear hmem hD
          have HOS := Lib.hid HK1.out.row
          go_wp2_with (first
            | (at_mapUpdate; refine wpList_mapUpdate_own _ rfl _ _ _ 107 rfl 29 3 lawU64 Try.underlying107 _ w2.heap.size l.length D rfl hown (by unfold maxLen; omega) _ _ _ rfl rfl (keyOf_int_mk Try.underlying29 hwf) _ [] (Go.plainElem_int Try.underlying3 (by rfl)) ?_; intro w5 hown5 hgrow5; have HO5 := Lib.hid hown5; have HG5 := Lib.hid hgrow5; clear hown5 hgrow5 hrun)
            | (at_builtin; refine wpList_app (t := 22) (e := 29) (z := .int .u64 0) (bytes := 8) (base := w2.heap.size + 1) (n := l.length) (m := 1) (xs := l.map (Value.int .u64)) (news := [.int .u64 f']) (v := .slice pl l.length cl) (x := .slice (some ⟨w5.heap.size, 0, none⟩) 1 1) rfl (.tmp 42) (.tmp 44) rfl Try.underlying22 infoU64 rfl rfl ((ow_map HOS.out HG5.out).alloc _) rfl (src_one rfl) (by simp [Value.oneCell']) (by unfold maxLen; omega) (by omega) (by have := HK1.out.sz.2.1; have := HG5.out.size; simp; omega) ?_; intro u' w6 hap; have HK2 := Lib.hid (HMP.out _ u' w5 w6 HO5.out HG5.out hap); clear hap; obtain ⟨m0, m1⟩ := HK2.out.bm)
            | fail)
          refine (HI.out A1 _ HK2.out.bel).mono ?_
          rintro e w7 ⟨rfl, hb7⟩
          have HK3 := Lib.hid (HK2.out.keep hb7)
          clear hb7 HK2
          rw [HNX.out]
          go_wp2_with fail
          go_roundw
          case rel => exact ⟨l ++ [f'], nxtF vs f', rfl, HK3.out⟩
          case measure =>
            obtain ⟨pu, cu, hu⟩ := ow_form HK3.out.row
            rw [hu]
            simp only [slLen, List.length_append, List.length_singleton]
            omega
end
section
open Go Go.ChangeShapes Go.WideShapes Go.ChangeAt Go.RowKit
set_option linter.unusedVariables false
set_option linter.unusedSimpArgs false
/-- What the rounds of the document's Chain hold. -/
structure HR (vs : List Int) (f0 : Int) (p : Option Addr) (n c tn X : Nat) (W : World) (l : List Int) (f : Int) (out : Value) (A : World) : Prop where
  ci : CI (isF vs) (nxtF vs) vs.length f0 l f
  wf : (Lit.int .u64 f).wf = true
  row : OW .u64 29 A (X + 1) out l
  bm : Bm A X p n c tn
  bel : Below W.heap.size W A
  sz : X < A.heap.size ∧ W.heap.size ≤ X
theorem HR.keep {vs : List Int} {f0 : Int} {p : Option Addr} {n c tn X : Nat} {W : World} {l : List Int} {f : Int} {out : Value} {A B : World} (h : HR vs f0 p n c tn X W l f out A) (hb : Below A.heap.size A B) : HR vs f0 p n c tn X W l f out B :=
  ⟨h.ci, h.wf, h.row.keep hb, h.bm.keep hb, h.bel.trans (hb.mono h.bel.size), ⟨Nat.lt_of_lt_of_le h.sz.1 hb.size, h.sz.2⟩⟩
theorem HR.push {vs : List Int} {f0 : Int} {p : Option Addr} {n c tn X : Nat} {W : World} {l : List Int} {f : Int} {out out' : Value} {A A2 : World} {T : TypeId} (h : HR vs f0 p n c tn X W l f out A) (hl : l.length ≤ vs.length) (h1 : isF vs f = true) (h2 : ¬ f ∈ l) (hf : Fit vs)
    (ha : Apd (A.alloc (.cells #[.int .u64 f] T)) A2 (X + 1) 29 out out' (l.length + 1) (l.map (Value.int .u64) ++ [Value.int .u64 f])) : HR vs f0 p n c tn X W (l ++ [f]) (nxtF vs f) out' A2 := by
  have hlt := fun {g : Nat} (hg : out.ownBlock = some g) => OW.lt h.row hg
  have hs2 := ha.grown.size
  rw [World.size_alloc] at hs2
  obtain ⟨z2, z3⟩ := h.sz
  have hX : A2.heap[X]? = A.heap[X]? := by
    rw [ha.grown.block X (by rw [World.size_alloc]; omega) (fun e => by have := (hlt e.symm).1; omega), Below.heap_alloc _ _ _ (by omega)]
  refine ⟨h.ci.step hl h1 h2, nxt_wf hf f, own_apd ha, ?_, ?_, ⟨by omega, z3⟩⟩
  · exact ⟨(World.cell?_of_block (a := ⟨X, 0, none⟩) hX).trans h.bm.c0, (World.cell?_of_block (a := ⟨X, 1, none⟩) hX).trans h.bm.c1⟩
  · refine (h.bel.alloc (by have := h.bel.size; omega) _).grown ha.grown (by rw [World.size_alloc]; have := h.bel.size; omega) (fun k hk => by have := (hlt hk).1; omega)
/-- A box of another call's, behind what was pushed. -/
theorem apd_cell {A A2 : World} {S : Nat} {T : TypeId} {out out' : Value} {n : Nat} {xs : List Value} {o : Obj} {l : List Int} {X : Nat} {i : Nat} {u : Value} (ha : Apd (A.alloc o) A2 S T out out' n xs) (hr : OW .u64 29 A S out l) (hc : A.cell? ⟨X, i, none⟩ = some u) (hn : out.ownBlock ≠ some X) : A2.cell? ⟨X, i, none⟩ = some u := by
  have hX := World.block_lt_of_cell? A _ hc
  dsimp only at hX
  refine (World.cell?_of_block (a := ⟨X, i, none⟩) ?_).trans hc
  rw [ha.grown.block X (by rw [World.size_alloc]; omega) (fun e => hn e.symm), Below.heap_alloc _ _ _ (by omega)]
theorem notin_step {l : List Int} {f : Int} {k : Nat} (h : k < l.length) : (decide (f ∉ l.take (k + 1))) = (decide (f ∉ l.take k) && (l.getD k 0 != f)) := by
  rw [List.take_add_one, List.getElem?_eq_getElem h, List.getD_eq_getElem?_getD, List.getElem?_eq_getElem h]
  simp only [Option.toList_some, Option.getD_some, List.mem_append, List.mem_singleton]
  by_cases h1 : f ∈ l.take k
  · simp [h1]
  · by_cases h2 : f = l[k]
    · simp [h1, h2]
    · have : ¬ l[k] = f := fun e => h2 e.symm
      simp [h1, h2, this]
theorem tag_nxt {vs : List Int} {f : Int} (h : isF vs f = true) : (tagL vs f).getD 1 0 = nxtF vs f ∧ 1 < (tagL vs f).length := by
  obtain ⟨n, hn, hl, h1, h2, hg⟩ := isF_tag h
  obtain ⟨i1, i2, i3, i4, i5, i6⟩ := isF_in h
  refine ⟨?_, by omega⟩
  rw [hg 1 (by omega)]
  unfold nxtF gV
  rw [i3, if_pos ⟨i2, by omega, by omega⟩]
  rfl
theorem chn_prefix (p : Int → Bool) (nx : Int → Int) : ∀ (n : Nat) (l : List Int) (f : Int), ∃ t, chn p nx n l f = l ++ t
  | 0, l, f => ⟨[], by simp [chn]⟩
  | n + 1, l, f => by
    unfold chn
    split
    · obtain ⟨t, h⟩ := chn_prefix p nx n (l ++ [f]) (nx f)
      exact ⟨[f] ++ t, by rw [h, List.append_assoc]⟩
    · exact ⟨[], by simp⟩
theorem reg_chain {vs : List Int} {f : Int} {l : List Int} (h : chainL vs f = l) : regE vs f = if l.length = 0 then 1 else 0 := by
  cases h1 : isF vs f
  · rw [chain_none h1] at h
    subst h
    unfold regE; rw [h1]; rfl
  · unfold chainL chn at h
    rw [if_pos (by simp [h1])] at h
    obtain ⟨t, h2⟩ := chn_prefix (isF vs) (nxtF vs) vs.length ([] ++ [f]) (nxtF vs f)
    rw [h2] at h
    subst h
    unfold regE; rw [h1]; simp
set_option maxRecDepth 100000 in
set_option maxHeartbeats 4000000 in
theorem rchain_any (v : Value) (ws : List Int) (tn : Nat) (f : Int) (w : World) (hr : Rd w v ws) (hf : Fit ws) (ht : tn ≤ ws.length) (hm20 : ws.length ≤ 17592186043904) (hw : (Lit.int .u64 f).wf = true) :
    Calls Try.prog 42 #[.agg #[v, .int .i64 tn], .int .u64 f] w (ChPost w (ws.take tn) f) := by
  have HL := Lib.hid (fun (f : Int) (hw : (Lit.int .u64 f).wf = true) (wx : World) (hx : Below w.heap.size w wx) => ris_f v ws tn f w wx hr hx hf ht (by omega) hw)
  have HFV := Lib.hid (Fit.take hf tn)
  obtain ⟨p, c, rfl, hm⟩ := rd_form0 hr
  have hvl : (ws.take tn).length ≤ 17592186043904 := by rw [List.length_take]; omega
  generalize hvs : ws.take tn = vs at *
  clear hf hr hvs
  go_enter Try.func42, Try.ntmps42
  go_wp2_with fail
  generalize hw1 : World.alloc w _ = w1
  have HST := Lib.hid (show HR vs f p ws.length c tn w.heap.size w [] f (.slice none 0 0) w1 from
    ⟨CI.start _ _ _ _, hw, OW.nil _ _, by rw [← hw1]; exact Bm.new _ _ _ _ _ _, by rw [← hw1]; exact (Below.refl _ _).alloc (Nat.le_refl _) _, ⟨by rw [← hw1]; simp, Nat.le_refl _⟩⟩)
  clear hw1
  go_loopw [1, 6, 7, 8, 9] (fun fv ov _ _ _ wr => ∃ l f', fv = .int .u64 f' ∧ HR vs f p ws.length c tn w.heap.size w l f' ov wr) (fun _ ov _ _ _ _ => vs.length + 1 - slLen ov)
  case atStart => exact ⟨[], f, rfl, HST.out⟩
  case round =>
    obtain ⟨l, f', rfl, hk⟩ := hrel
    have HK0 := Lib.hid hk
    obtain ⟨m0, m1⟩ := hk.bm
    have hwf := hk.wf
    obtain ⟨pl, cl, rfl⟩ := ow_form hk.row
    have hlen := hk.ci.len (fun x hx => isF_bound hx)
    clear hk HST
    go_wp2_with fail
    refine (HL.out f' hwf _ HK0.out.bel).mono ?_
    rintro e w4 ⟨tv, rv, rfl, hr1, hr2, hb4⟩
    have HK1 := Lib.hid (HK0.out.keep hb4)
    have HR1 := Lib.hid hr1
    obtain ⟨p1, c1, rfl, hm1⟩ := rd_form0 (hr1 _ (Below.refl _ _))
    obtain ⟨p2, c2, rfl, _⟩ := rd_form0 (hr2 _ (Below.refl _ _))
    clear hb4 HK0 hr1 hr2 m0 m1
    cases hF : isF vs f' with
    | false =>
      have HQ := Lib.hid (HK1.out.ci.stop hlen (.inl hF))
      have HE := Lib.hid (reg_chain HQ.out)
      clear hF
      by_cases hz : l.length = 0
      · have hz1 : ((l.length : Int) == 0) = true := by simp [hz]
        rw [if_pos hz] at HE
        have hzl := Lib.hid hz
        clear hz
        go_wp2_with fail
        go_ret2
        exact ⟨.slice none 0 0, by rw [HE.out]; rfl, by rw [show chainL vs f = l from HQ.out, List.eq_nil_of_length_eq_zero hzl.out]; exact .inl ⟨_, rfl, rfl⟩, HK1.out.bel.alloc HK1.out.bel.size _⟩
      · have hz1 : ((l.length : Int) == 0) = false := by rw [beq_eq_false_iff_ne]; omega
        rw [if_neg hz] at HE
        have hzl := Lib.hid hz
        clear hz
        go_wp2_with fail
        go_ret2
        exact ⟨.slice pl l.length cl, by rw [HE.out]; rfl, by rw [show chainL vs f = l from HQ.out]; exact (HK1.out.row.rd (by omega)).keep ((Below.refl _ _).alloc (Nat.le_refl _) _), HK1.out.bel.alloc HK1.out.bel.size _⟩
    | true =>
      have HF := Lib.hid hF
      have HT := Lib.hid (tag_nxt hF)
      clear hF
      go_wp2_with fail
      generalize hw5 : World.alloc w4 _ = w5
      have hb5 : Below w4.heap.size w4 w5 := by rw [← hw5]; exact (Below.refl _ _).alloc (Nat.le_refl _) _
      have HQ5 := Lib.hid (show B4 w5 w4.heap.size (.int .i64 (lA vs f')) (.int .i64 (lK vs f')) (.slice p1 (tagL vs f').length c1) (.slice p2 (rawL vs f').length c2) by rw [← hw5]; exact B4.new _ _ _ _ _ _)
      have HK5 := Lib.hid (HK1.out.keep hb5)
      have HRO := Lib.hid (HK5.out.row.rd (by omega))
      have HNB := Lib.hid (show (Value.slice pl l.length cl).ownBlock ≠ some w4.heap.size from fun e => by have := (OW.lt HK1.out.row e).2; omega)
      clear hw5 hb5 HK1
      go_loopw [8, 9] (fun ok s wr => ∃ k : Nat, s = .int .i64 k ∧ k ≤ l.length ∧ ok = .bool (decide (f' ∉ l.take k)) ∧ wr = w5) (fun _ s _ => l.length - (intOf s).toNat)
      case atStart => exact ⟨0, by go_num, Nat.zero_le _, by simp, rfl⟩
      case round =>
        obtain ⟨k, rfl, hk, rfl, rfl⟩ := hrel
        by_cases hlt : k < l.length
        · have hlz : (k : Int) < (l.length : Int) := by omega
          obtain ⟨b, off, cc, hsl, hcc, hll, hcell⟩ := HRO.out.some (by omega)
          cases hsl
          have hck := hcell k hlt
          have HN := Lib.hid (notin_step (f := f') hlt)
          generalize l.getD k 0 = x at hck HN
          clear hcell
          cases hd : decide (f' ∉ l.take k)
          · rw [hd] at HN
            go_wp2_with fail
            go_roundw
            case rel => exact ⟨k + 1, by go_num, hlt, by rw [HN.out]; rfl, by first | rfl | trivial⟩
            case measure => simp [intOf]; omega
          · rw [hd] at HN
            go_wp2_with fail
            go_roundw
            case rel => exact ⟨k + 1, by go_num, hlt, by rw [HN.out]; rfl, by first | rfl | trivial⟩
            case measure => simp [intOf]; omega
        · obtain rfl : k = l.length := by omega
          have hlz : ¬ (l.length : Int) < (l.length : Int) := by omega
          rw [List.take_length]
          by_cases hmem : f' ∈ l
          · have HQ := Lib.hid (HK5.out.ci.stop hlen (.inr hmem))
            have HE := Lib.hid (reg_chain HQ.out)
            have hz : ¬ l.length = 0 := by intro e; rw [List.eq_nil_of_length_eq_zero e] at hmem; cases hmem
            have hz1 : ((l.length : Int) == 0) = false := by rw [beq_eq_false_iff_ne]; omega
            rw [if_neg hz] at HE
            have hd : decide (f' ∉ l) = false := by simp [hmem]
            rw [hd]
            clear hmem hd hz
            go_wp2_with fail
            go_ret2
            exact ⟨.slice pl l.length cl, by rw [HE.out]; rfl, by rw [show chainL vs f = l from HQ.out]; exact HRO.out, HK5.out.bel⟩
          · have HMP := Lib.hid (fun (T : TypeId) (u : Value) (w6 : World) => HR.push (T := T) (out' := u) (A2 := w6) HK5.out hlen HF.out hmem HFV.out)
            have hd : decide (f' ∉ l) = true := by simp [hmem]
            rw [hd]
            clear hmem hd
            have HOS := Lib.hid HK5.out.row
            obtain ⟨b, off, cc, hsl, hcc, hll, hcell⟩ := (HR1.out w (Below.refl _ _)).some (by have := HT.out.2; omega)
            injection hsl with e1 e2 e3
            subst e1 e3
            obtain ⟨TL, hTL⟩ : ∃ x, (tagL vs f').length = x := ⟨_, rfl⟩
            have ht1 : (1 : Int) < (TL : Int) := by have := HT.out.2; omega
            have ht2 : decide ((TL : Int) ≤ 1) = false := by simp; omega
            have k2 := HQ5.out.c2
            rw [hTL] at k2
            have HC := Lib.hid (fun (T : TypeId) (u : Value) (w6 : World) (ha : Apd (wr.alloc (.cells #[.int .u64 f'] T)) w6 (w.heap.size + 1) 29 (Value.slice pl l.length cl) u (l.length + 1) (l.map (Value.int .u64) ++ [Value.int .u64 f'])) => apd_cell ha HOS.out k2 HNB.out)
            have HX := Lib.hid (fun (w6 : World) (hb : Below w.heap.size w w6) => show w6.cell? ⟨b, off + 1, none⟩ = some (.int .u64 (nxtF vs f')) by
              obtain ⟨b', off', cc', hsl', _, _, hcell'⟩ := (HR1.out w6 hb).some (by have := HT.out.2; omega)
              have h1 := hcell' 1 HT.out.2
              rw [HT.out.1] at h1
              cases hsl'
              exact h1)
            go_wp2_with (first
              | (at_builtin; refine wpList_app (t := 22) (e := 29) (z := .int .u64 0) (bytes := 8) (base := w.heap.size + 1) (n := l.length) (m := 1) (xs := l.map (Value.int .u64)) (news := [.int .u64 f']) (v := .slice pl l.length cl) (x := .slice (some ⟨wr.heap.size, 0, none⟩) 1 1) rfl (.tmp 35) (.tmp 37) rfl Try.underlying22 infoU64 rfl rfl (HOS.out.alloc _) rfl (src_one rfl) (by simp [Value.oneCell']) (by unfold maxLen; omega) (by omega) (by have := HK5.out.sz.1; simp; omega) ?_; intro u' w6 hap; have HK6 := Lib.hid (HMP.out _ u' w6 hap); have k2 := HC.out _ u' w6 hap; have hxc := HX.out w6 HK6.out.bel; clear hap)
              | fail)
            go_roundw
            case rel => exact ⟨l ++ [f'], nxtF vs f', rfl, HK6.out⟩
            case measure =>
              obtain ⟨pu, cu, hu⟩ := ow_form HK6.out.row
              rw [hu]
              simp only [slLen, List.length_append, List.length_singleton]
              omega
end
end Go.Proofs.Ytilonacjmihglaa
