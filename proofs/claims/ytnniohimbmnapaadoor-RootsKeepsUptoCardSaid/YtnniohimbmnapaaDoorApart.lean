/- The document's Apart: lists whose cells have a colour each share no memory. -/
import Derived.Test.YtnniohimbmnapaaDoorKeep
import Derived.Test.YtnniohimbmnapaaDoorOwn
import Derived.Test.YtnniohimbmnapaaDoorProg
import Derived.WalkKit
import Derived.Lib.Hide
import Derived.WalkSpells
import Derived.OwnWalk
namespace Go.Proofs.YtnniohimbmnapaaDoor
open Go Go.ChangeShapes Go.WideShapes Go.RowKit
set_option linter.unusedVariables false
set_option linter.unusedSimpArgs false
theorem infoWd : (Tryd.prog.info? 53).map (fun i => (i.zero, i.size, i.bytes)) = some (some (.int .u64 0), 1, 8) := by kernel_rfl
theorem infoWds : (Tryd.prog.info? 52).map (fun i => (i.zero, i.size, i.bytes)) = some (some (.slice none 0 0), 1, 24) := by kernel_rfl
def vz : Value := .bool false
theorem rowC_form {w : World} {tg : Nat → Nat → Nat} {S0 k n m : Nat} {v : Value} (h : RowC w tg S0 k v n m) : ∃ p c, v = .slice p n c ∧ (0 < n → ∃ b off, p = some ⟨b, off, none⟩) := by
  rcases h with ⟨p, rfl, rfl⟩ | ⟨b, off, c, rfl, _⟩
  · exact ⟨p, 0, rfl, fun h => by omega⟩
  · exact ⟨_, c, rfl, fun _ => ⟨b, off, rfl⟩⟩
theorem rowC_cell {w : World} {tg : Nat → Nat → Nat} {S0 k n m c b off i : Nat} (h : RowC w tg S0 k (.slice (some ⟨b, off, none⟩) n c) n m) (hn : 0 < n) (hi : i < m) : w.cell? ⟨b, off + i, none⟩ = some (.int .u64 ((k : Int) + 1000)) := by
  rcases h with ⟨p, h, rfl⟩ | ⟨b', off', c', he, h1, h2, h3, h4⟩
  · omega
  · simp only [Value.slice.injEq, Option.some.injEq, Addr.mk.injEq, and_true, true_and] at he
    obtain ⟨⟨rfl, rfl⟩, rfl⟩ := he
    exact h4 i hi
theorem rowC_one {w : World} {tg : Nat → Nat → Nat} {S0 k n m : Nat} {v : Value} (h : RowC w tg S0 k v n m) : v.oneCell' = true := by
  obtain ⟨p, c, rfl, _⟩ := rowC_form h
  rfl
theorem Ev.trans2 {tg tg' : Nat → Nat → Nat} {S0 H0 : Nat} {w w' w2 : World} (h : Ev tg S0 H0 w w') (g : Ev tg' S0 H0 w' w2) (ho : ∀ b o, b < w.heap.size → tg' b o = tg b o) (hH : H0 ≤ w.heap.size) : Ev tg S0 H0 w w2 :=
  ⟨h.below.trans g.below, fun b o k hb ht hc => g.keep b o k (Nat.lt_of_lt_of_le hb h.below.size) ((ho b o hb).trans ht) (h.keep b o k hb ht hc),
    fun b o hb ht hc => g.wr b o (Nat.lt_of_lt_of_le hb h.below.size) (by rw [ho b o hb]; exact ht) (h.wr b o hb ht hc), fun b o hb ht => (g.un b o hb ((ho b o (by omega)).trans ht)).trans (h.un b o hb ht)⟩
/-- Where Apart stands: all lists marked, those of the first K grown. -/
structure AI (w : World) (tg : Nat → Nat → Nat) (S0 : Nat) (vs : List Value) (ns : Nat → Nat) (K : Nat) (gv : Value) (gs : List Value) (tgx : Nat → Nat → Nat) (wx : World) : Prop where
  ev : Ev tg S0 w.heap.size w wx
  old : ∀ b o, b < w.heap.size → tgx b o = tg b o
  fresh : ∀ b o, wx.heap.size ≤ b → tgx b o = 0
  rows : ∀ j, j < vs.length → RowC wx tgx S0 j (vs.getD j vz) (ns j) (ns j)
  gl : gs.length = 2 * K
  own : wx.ownsRow w.heap.size 52 1 gv (2 * K) gs
  gt : ∀ g, gv.ownBlock = some g → ∀ o, tgx g o = 0
  gr : ∀ j, j < 2 * K → ∃ n, RowC wx tgx S0 (j / 2) (gs.getD j vz) n n ∧ n ≤ 8796093022308
section
variable {w wx w' : World} {tg tgx tg' : Nat → Nat → Nat} {S0 K k n : Nat} {vs gs : List Value} {ns : Nat → Nat} {gv v v' : Value}
theorem owns_lt {B sz : Nat} {T : TypeId} {xs : List Value} (h : w.ownsRow B T sz v n xs) {g : Nat} (hg : v.ownBlock = some g) : B ≤ g ∧ g < w.heap.size := World.ownsRow.lt h g hg
theorem owns_block {B sz : Nat} {T : TypeId} {xs : List Value} (h : w.ownsRow B T sz v n xs) (hb : ∀ g, v.ownBlock = some g → w'.heap[g]? = w.heap[g]?) : w'.ownsRow B T sz v n xs := by
  refine ⟨h.1, ?_⟩
  rcases h.2 with h2 | ⟨g, c, cur, rfl, h0, hg, r⟩
  · exact .inl h2
  · exact .inr ⟨g, c, cur, rfl, h0, (hb g rfl).trans hg, r⟩
theorem AI.size (h : AI w tg S0 vs ns K gv gs tgx wx) : w.heap.size ≤ wx.heap.size := h.ev.below.size
/-- One step that writes coloured words alone. -/
theorem AI.step (h : AI w tg S0 vs ns K gv gs tgx wx) (hE : Ev tgx S0 w.heap.size wx w') (hc : ∀ b o, b < wx.heap.size → tg' b o = tgx b o) (hf : ∀ b o, w'.heap.size ≤ b → tg' b o = 0) (hb : ∀ g, g < wx.heap.size → (∀ o, tgx g o = 0) → w'.heap[g]? = wx.heap[g]?) :
    AI w tg S0 vs ns K gv gs tg' w' := by
  have hs := h.size
  have hE' : Ev tg' S0 w.heap.size wx w' := hE.recol (fun b o hb => (hc b o hb).symm) hs
  refine ⟨h.ev.trans2 hE h.old (Nat.le_refl _), fun b o hb => (hc b o (by omega)).trans (h.old b o hb), hf, fun j hj => ((h.rows j hj).recol hc).keep (Nat.le_refl _) hE', h.gl, owns_block h.own fun g hg => hb g (owns_lt h.own hg).2 (h.gt g hg), fun g hg o => ?_, fun j hj => ?_⟩
  · rw [hc g o (owns_lt h.own hg).2]; exact h.gt g hg o
  · obtain ⟨n, h1, h2⟩ := h.gr j hj
    exact ⟨n, (h1.recol hc).keep (Nat.le_refl _) hE', h2⟩
theorem AI.apc (h : AI w tg S0 vs ns K gv gs tgx wx) (a : ApC tgx tg' S0 w.heap.size k n wx w' v') : AI w tg S0 vs ns K gv gs tg' w' := h.step a.ev a.col a.fresh a.blk
theorem AI.low (h : AI w tg S0 vs ns K gv gs tgx wx) (hS : S0 ≤ w.heap.size) (hb : Below wx.heap.size wx w') : AI w tg S0 vs ns K gv gs tgx w' :=
  h.step (Ev.below' hb (Nat.le_trans hS h.size) h.size) (fun _ _ _ => rfl) (fun b o hb' => h.fresh b o (Nat.le_trans hb.size hb')) (fun g hg _ => hb.block g hg)
/-- A pair of grown lists more. -/
theorem AI.push {n1 n2 : Nat} {v1 v2 : Value} (h : AI w tg S0 vs ns K gv gs tgx wx) (hS : S0 ≤ w.heap.size) (h1 : RowC wx tgx S0 K v1 n1 n1) (h2 : RowC wx tgx S0 K v2 n2 n2) (l1 : n1 ≤ 8796093022308) (l2 : n2 ≤ 8796093022308)
    (ha : Apd wx w' w.heap.size 52 gv v' (2 * K + 2) (gs ++ [v1, v2])) : AI w tg S0 vs ns (K + 1) v' (gs ++ [v1, v2]) tgx w' := by
  have hs := h.size
  have hrow : ∀ g, gv.ownBlock = some g → S0 ≤ g ∧ w.heap.size ≤ g ∧ ∀ o, tgx g o = 0 := fun g hg => ⟨Nat.le_trans hS (owns_lt h.own hg).1, (owns_lt h.own hg).1, h.gt g hg⟩
  have hE : Ev tgx S0 w.heap.size wx w' := Ev.grown ha.grown hrow (Nat.le_trans hS hs) hs
  refine ⟨h.ev.trans2 hE h.old (Nat.le_refl _), h.old, fun b o hb => h.fresh b o (Nat.le_trans ha.grown.size hb), fun j hj => (h.rows j hj).keep (Nat.le_refl _) hE, by simp [h.gl]; omega, by rw [show 2 * (K + 1) = 2 * K + 2 by omega]; exact ha.own, fun g hg o => ?_, fun j hj => ?_⟩
  · rcases ha.at_ with e | e
    · rw [e] at hg; exact h.gt g hg o
    · rw [e] at hg
      simp only [Option.some.injEq] at hg
      exact h.fresh g o (by omega)
  · have hgl := h.gl
    by_cases e : j < 2 * K
    · obtain ⟨n, e1, e2⟩ := h.gr j e
      refine ⟨n, ?_, e2⟩
      rw [List.getD_eq_getElem?_getD, List.getElem?_append_left (by omega), ← List.getD_eq_getElem?_getD]
      exact e1.keep (Nat.le_refl _) hE
    · obtain ⟨q, rfl⟩ : ∃ q, j = 2 * K + q := ⟨j - 2 * K, by omega⟩
      rw [List.getD_eq_getElem?_getD, List.getElem?_append_right (by omega), hgl, show 2 * K + q - 2 * K = q by omega, show (2 * K + q) / 2 = K by omega]
      match q, (show q < 2 by omega) with
      | 0, _ => exact ⟨n1, by simpa using h1.keep (Nat.le_refl _) hE, l1⟩
      | 1, _ => exact ⟨n2, by simpa using h2.keep (Nat.le_refl _) hE, l2⟩
theorem AI.ls (h : AI w tg S0 vs ns K gv gs tgx wx) {b o : Nat} {u : Value} (hb : b < w.heap.size) (ht : tg b o = 0) (hc : w.cell? ⟨b, o, none⟩ = some u) : wx.cell? ⟨b, o, none⟩ = some u := (h.ev.un b o hb ht).trans hc
theorem AI.gcell (h : AI w tg S0 vs ns K gv gs tgx wx) {j : Nat} (hj : j < 2 * K) : ∃ b c, gv = .slice (some ⟨b, 0, none⟩) (2 * K) c ∧ wx.cell? ⟨b, j, none⟩ = some (gs.getD j vz) := by
  have hgl := h.gl
  rcases h.own.2 with ⟨rfl, h2⟩ | ⟨g, c, cur, rfl, hg, r1, r2, r3, r4, r5⟩
  · omega
  · refine ⟨g, c, rfl, ?_⟩
    have e := congrArg (fun l => l[j]?) r5
    simp only [List.getElem?_take] at e
    rw [if_pos (by omega), Array.getElem?_toList] at e
    rw [List.getD_eq_getElem?_getD, List.getElem?_eq_getElem (by omega)]
    rw [List.getElem?_eq_getElem (by omega)] at e
    simp [World.cell?, r1, e]
end
theorem owns_form0 {w : World} {B sz n : Nat} {T : TypeId} {v : Value} {xs : List Value} (h : w.ownsRow B T sz v n xs) : ∃ p c, v = .slice p n c := by
  rcases h.2 with ⟨rfl, rfl⟩ | ⟨g, c, cur, rfl, _⟩
  · exact ⟨none, 0, rfl⟩
  · exact ⟨_, c, rfl⟩
theorem made48 (w : World) : (Instr.makeSlice 52 (.int .i64 48) (.int .i64 48)).run Tryd.prog w = .ok (.slice (some ⟨w.heap.size, 0, none⟩) 48 48) (w.alloc (.cells (madeCells #[.int .u64 0] 48) 53)) :=
  run_make_row' (P := Tryd.prog) 52 53 (.int .u64 0) 8 Tryd.underlying52 infoWd rfl .i64 .i64 48 (by omega) (by omega) w
theorem fill_set (a : Int) (i : Nat) (hi : i < 48) : (List.replicate i a ++ List.replicate (48 - i) 0).set i a = List.replicate (i + 1) a ++ List.replicate (48 - (i + 1)) 0 := by
  refine List.ext_getElem (by simp; omega) fun j h1 h2 => ?_
  rw [List.getElem_set]
  by_cases e : i = j
  · subst e
    rw [if_pos rfl, List.getElem_append_left (by simp)]
    simp
  · rw [if_neg e]
    by_cases h : j < i
    · rw [List.getElem_append_left (by simpa using h), List.getElem_append_left (by simp; omega)]
      simp
    · rw [List.getElem_append_right (by simp; omega), List.getElem_append_right (by simp; omega)]
      simp
theorem rep48 (a : Int) (j : Nat) (hj : j < 48) : (List.replicate 48 a ++ List.replicate (48 - 48) 0).getD j 0 = a := by
  rw [List.getD_eq_getElem?_getD, List.getElem?_append_left (by simpa using hj), List.getElem?_replicate, if_pos hj]; rfl
/-- What Apart is handed: the cells of the list bear no colour. -/
structure AHyp (w : World) (tg : Nat → Nat → Nat) (S0 : Nat) (p : Option Addr) (vs : List Value) (ns : Nat → Nat) : Prop where
  ls : ∀ i, i < vs.length → ∃ b off, p = some ⟨b, off, none⟩ ∧ b < w.heap.size ∧ tg b (off + i) = 0 ∧ w.cell? ⟨b, off + i, none⟩ = some (vs.getD i vz)
  row : ∀ k, k < vs.length → RowC w tg S0 k (vs.getD k vz) (ns k) 0
  fresh : ∀ b o, w.heap.size ≤ b → tg b o = 0
  hS : S0 ≤ w.heap.size
  len : vs.length ≤ 4194304
  hn : ∀ k, k < vs.length → ns k ≤ 8796093022208
set_option maxRecDepth 100000 in
set_option maxHeartbeats 8000000 in
theorem apart_any (p : Option Addr) (c : Nat) (vs : List Value) (ns : Nat → Nat) (tg : Nat → Nat → Nat) (S0 : Nat) (w : World) (h : AHyp w tg S0 p vs ns) :
    Calls Tryd.prog 32 #[.slice p vs.length c] w fun e w' => e = .returned (.bool true) ∧ Below S0 w w' := by
  have HH := Lib.hid h
  have hlen := h.len
  clear h
  go_enter Tryd.func32, Tryd.ntmps32
  go_wp2_with fail
  go_loopw [3] (fun s3 wx => ∃ k : Nat, s3 = .int .i64 k ∧ k ≤ vs.length ∧ Ev tg S0 w.heap.size w wx ∧ ∀ j, j < k → RowC wx tg S0 j (vs.getD j vz) (ns j) (ns j)) (fun s3 _ => vs.length - (intOf s3).toNat)
  case atStart => exact ⟨0, rfl, Nat.zero_le _, Ev.refl _, fun j hj => by omega⟩
  case round =>
    obtain ⟨k, rfl, hk, hev, hdone⟩ := hrel
    have HEV := Lib.hid hev
    have HD := Lib.hid hdone
    clear hev hdone
    by_cases hlt : k < vs.length
    · have hlz : (k : Int) < (vs.length : Int) := by omega
      obtain ⟨b0, o0, rfl, hb0, ht0, hc0⟩ := HH.out.ls k hlt
      have hrk := (HH.out.row k hlt).keep (Nat.zero_le _) HEV.out
      have hnl := HH.out.hn k hlt
      obtain ⟨vk, hvk⟩ : ∃ vk, vs.getD k vz = vk := ⟨_, rfl⟩
      obtain ⟨n, hn⟩ : ∃ n, ns k = n := ⟨_, rfl⟩
      rw [hvk, hn] at hrk
      rw [hvk] at hc0
      rw [hn] at hnl
      obtain ⟨pk, ck, rfl, hpk⟩ := rowC_form hrk
      have HRK := Lib.hid hrk
      have HPK := Lib.hid hpk
      have HVK := Lib.hid hvk
      have HN := Lib.hid hn
      have HC0 := Lib.hid hc0
      have HLT := Lib.hid hlt
      clear hrk hpk hvk hn hc0
      go_wp2_with fail
      go_loopw [4] (fun s4 wx => ∃ i : Nat, s4 = .int .i64 i ∧ i ≤ n ∧ Ev tg S0 w.heap.size w wx ∧ (∀ j, j < k → RowC wx tg S0 j (vs.getD j vz) (ns j) (ns j)) ∧ RowC wx tg S0 k (.slice pk n ck) n i) (fun s4 _ => n - (intOf s4).toNat)
      case atStart => exact ⟨0, rfl, Nat.zero_le _, HEV.out, HD.out, HRK.out⟩
      case round =>
        obtain ⟨i, rfl, hi, hev2, hdone2, hrow2⟩ := hrel
        have ecl := (hev2.un b0 (o0 + k) hb0 ht0).trans HC0.out
        have HEV2 := Lib.hid hev2
        have HD2 := Lib.hid hdone2
        have HR2 := Lib.hid hrow2
        clear hev2 hdone2 hrow2
        by_cases hil : i < n
        · have hiz : (i : Int) < (n : Int) := by omega
          obtain ⟨b, off, rfl⟩ := HPK.out (by omega)
          obtain ⟨htag, hSb, hwr, hnew⟩ := HR2.out.mark hil
          have HNW := Lib.hid hnew
          have HST := Lib.hid (Ev.set (tg := tg) (S0 := S0) (H0 := w.heap.size) b (off + i) htag hSb hwr)
          obtain ⟨u, hu⟩ := Option.isSome_iff_exists.1 hwr.1
          have hfz := hwr.2
          unfold xk at HNW HST
          clear hnew hwr htag
          go_wp2_with fail
          go_roundw
          case rel => exact ⟨i + 1, by go_num, by omega, HEV2.out.trans HST.out, fun j hj => (HD2.out j hj).keep (Nat.le_refl _) HST.out, HNW.out⟩
          case measure => simp [intOf]; omega
        · have hiz : ¬ (i : Int) < (n : Int) := by omega
          obtain rfl : i = n := by omega
          go_wp2_with fail
          go_roundw
          case rel => exact ⟨k + 1, by go_num, by have := HLT.out; omega, HEV2.out, fun j hj => by
            by_cases e : j = k
            · subst e; rw [HVK.out, HN.out]; exact HR2.out
            · exact HD2.out j (by omega)⟩
          case measure => have := HLT.out; simp [intOf]; omega
    · have hlz : ¬ (k : Int) < (vs.length : Int) := by omega
      obtain rfl : k = vs.length := by omega
      have HAI := Lib.hid (show AI w tg S0 vs ns 0 (.slice none 0 0) [] tg wr from ⟨HEV.out, fun _ _ _ => rfl, fun b o hb => HH.out.fresh b o (by have := HEV.out.below.size; omega), fun j hj => HD.out j (by omega), rfl, World.ownsRow_nil _ _ _ _, fun g hg => (by cases hg), fun j hj => (by omega)⟩)
      go_wp2_with fail
      go_loopw [5, 6] (fun s5 s6 wx => ∃ (K : Nat) (gs : List Value) (tgx : Nat → Nat → Nat), s6 = .int .i64 K ∧ K ≤ vs.length ∧ AI w tg S0 vs ns K s5 gs tgx wx) (fun _ s6 _ => vs.length - (intOf s6).toNat)
      case atStart => exact ⟨0, [], tg, rfl, Nat.zero_le _, HAI.out⟩
      case round =>
        obtain ⟨K, gs, tgx, rfl, hK, hai⟩ := hrel
        obtain ⟨pg, cg, rfl⟩ := owns_form0 hai.own
        have HA := Lib.hid hai
        clear hai HAI HEV HD
        by_cases hKl : K < vs.length
        · have hKz : (K : Int) < (vs.length : Int) := by omega
          obtain ⟨b0, o0, rfl, hb0, ht0, hc0⟩ := HH.out.ls K hKl
          have hrk := HA.out.rows K hKl
          have hnl := HH.out.hn K hKl
          obtain ⟨vk, hvk⟩ : ∃ vk, vs.getD K vz = vk := ⟨_, rfl⟩
          obtain ⟨n, hn⟩ : ∃ n, ns K = n := ⟨_, rfl⟩
          rw [hvk, hn] at hrk
          rw [hvk] at hc0
          rw [hn] at hnl
          obtain ⟨pk, ck, rfl, hpk⟩ := rowC_form hrk
          have ecl := HA.out.ls hb0 ht0 hc0
          have HRK := Lib.hid hrk
          have HVK := Lib.hid hvk
          have HN := Lib.hid hn
          have HC0 := Lib.hid hc0
          have HKL := Lib.hid hKl
          clear hrk hpk hvk hn hc0
          go_wp2_with fail
          clear ecl
          go_loopw [7, 8] (fun s7 s8 wx => ∃ (q : Nat) (tgx : Nat → Nat → Nat), s8 = .int .i64 q ∧ q ≤ 6 ∧ AI w tg S0 vs ns K (.slice pg (2 * K) cg) gs tgx wx ∧ RowC wx tgx S0 K s7 (n + q) (n + q)) (fun _ s8 _ => 6 - (intOf s8).toNat)
          case atStart => exact ⟨0, tgx, rfl, by omega, HA.out, HRK.out⟩
          case round =>
            obtain ⟨q, tg4, rfl, hq, hai4, hrow4⟩ := hrel
            obtain ⟨p7, c7, rfl, _⟩ := rowC_form hrow4
            have HA4 := Lib.hid hai4
            have HR4 := Lib.hid hrow4
            have hs4 := hai4.size
            clear hai4 hrow4
            by_cases hq6 : q < 6
            · have hqz : (q : Int) < 6 := by omega
              go_wp2_with (first
                | (at_builtin; refine wpList_appC rfl (.tmp 53) (.tmp 57) rfl Tryd.underlying52 infoWd rfl rfl (H0 := w.heap.size) (S0 := S0) (k := K) (n := n + q) (m := 1) (tg := tg4) (HR4.out.keep (Nat.le_refl _) (Ev.below' ((Below.refl _ _).alloc (Nat.le_refl _) _) (Nat.le_trans HH.out.hS hs4) hs4)) rfl (fun b o hb => HA4.out.fresh b o (by simp at hb; omega)) (by decide) (fun j hj => by (obtain rfl : j = 0 := by omega); exact cell_one_new wr (xk K) _ 0 _ rfl) (by unfold maxLen; omega) (by omega) (by have := HH.out.hS; simp; omega) (by simp; omega) ?_; intro v' w' tg' hap; obtain ⟨p8, c8, rfl, _⟩ := rowC_form hap.row; have HAP := Lib.hid hap; clear hap)
                | fail)
              go_roundw
              case rel => exact ⟨q + 1, tg', by go_num, by omega, (HA4.out.low HH.out.hS ((Below.refl _ _).alloc (Nat.le_refl _) _)).apc HAP.out, HAP.out.row⟩
              case measure => simp [intOf]; omega
            · have hqz : ¬ (q : Int) < 6 := by omega
              obtain rfl : q = 6 := by omega
              have hmk := made48 wr
              have hL0 := LR.made (k := .u64) (T := 53) wr 48
              have HL0 := Lib.hid hL0
              clear hL0
              go_wp2_with fail
              clear hmk
              obtain ⟨W5, rfl⟩ : ∃ W5 : World, W5 = wr := ⟨_, rfl⟩
              go_loopw [10] (fun s10 wx => ∃ i : Nat, s10 = .int .i64 i ∧ i ≤ 48 ∧ Below W5.heap.size W5 wx ∧ LR .u64 53 wx W5.heap.size (List.replicate i ((K : Int) + 1000) ++ List.replicate (48 - i) 0)) (fun s10 _ => 48 - (intOf s10).toNat)
              case atStart => exact ⟨0, rfl, by omega, (Below.refl _ _).alloc (Nat.le_refl _) _, HL0.out⟩
              case round =>
                obtain ⟨i, rfl, hi, hb5, hl5⟩ := hrel
                have HB5 := Lib.hid hb5
                have HL5 := Lib.hid hl5
                clear hb5 hl5
                by_cases hi48 : i < 48
                · have hiz : (i : Int) < 48 := by omega
                  have q1 := HL5.out.cell (i := i) (by simp; omega)
                  have q2 := HL5.out.frozen i
                  have HLS := Lib.hid (HL5.out.set i ((K : Int) + 1000))
                  rw [fill_set _ i hi48] at HLS
                  generalize (List.replicate i ((K : Int) + 1000) ++ List.replicate (48 - i) 0).getD i 0 = y at q1
                  go_wp2_with fail
                  go_roundw
                  case rel => exact ⟨i + 1, by go_num, by omega, HB5.out.setCell (Nat.le_refl _) _, HLS.out⟩
                  case measure => simp [intOf]; omega
                · have hiz : ¬ (i : Int) < 48 := by omega
                  obtain rfl : i = 48 := by omega
                  have HA5 := Lib.hid (HA4.out.low HH.out.hS HB5.out)
                  have HR5 := Lib.hid (HR4.out.keep (Nat.le_refl _) (Ev.below' HB5.out (Nat.le_trans HH.out.hS hs4) hs4))
                  have ecl := HA5.out.ls hb0 ht0 HC0.out
                  have hrk5 := HA5.out.rows K HKL.out
                  rw [HVK.out, HN.out] at hrk5
                  have HRK5 := Lib.hid hrk5
                  have hs5 := HA5.out.size
                  have hsrc : ∀ j, j < 48 → wr.cell? ((⟨W5.heap.size, 0, none⟩ : Addr).add j) = some (xk K) := fun j hj => by
                    have := HL5.out.cell (i := j) (by simpa using hj)
                    rw [show (⟨W5.heap.size, 0, none⟩ : Addr).add j = ⟨W5.heap.size, j, none⟩ by unfold Addr.add; split <;> simp_all, this, rep48 _ j hj]
                    rfl
                  have HSRC := Lib.hid hsrc
                  clear hrk5 hsrc
                  go_wp2_with (first
                    | (at_builtin; refine wpList_appC rfl (.tmp 77) (.tmp 78) rfl Tryd.underlying52 infoWd rfl rfl (H0 := w.heap.size) (S0 := S0) (k := K) (n := n) (m := 48) (tg := tg4) HRK5.out rfl (fun b o hb => HA5.out.fresh b o hb) (by decide) HSRC.out (by unfold maxLen; omega) (by omega) (Nat.le_trans HH.out.hS hs5) hs5 ?_; intro v' w8 tg8 hap; obtain ⟨p8, c8, rfl, _⟩ := rowC_form hap.row; have HAP := Lib.hid hap; have HA8 := Lib.hid (HA5.out.apc hap); clear hap)
                    | (at_builtin; refine wpList_app rfl (.tmp 72) (.tmp 80) rfl Tryd.underlying43 infoWds rfl rfl (v := .slice pg (2 * K) cg) (base := w.heap.size) (n := 2 * K) (m := 2) (xs := gs) (news := [.slice p7 (n + 6) c7, .slice p8 (n + 48) c8]) (HA8.out.low HH.out.hS ((Below.refl _ _).alloc (Nat.le_refl _) _)).own rfl (by exact src_top (by first | rfl | (simp; done))) (fun u hu => by simp at hu; rcases hu with rfl | rfl <;> rfl) (by unfold maxLen; omega) (by omega) (by have := HA8.out.size; simp; omega) ?_; intro v9 w9 hap; obtain ⟨p9, c9, rfl⟩ := owns_form0 hap.own; have HAP9 := Lib.hid hap; clear hap)
                    | fail)
                  have hal8 : Below w8.heap.size w8 (w8.alloc (.cells #[.slice p7 (n + 6) c7, .slice p8 (n + 48) c8] 52)) := (Below.refl _ _).alloc (Nat.le_refl _) _
                  have hE8 : Ev tg8 S0 w.heap.size w8 (w8.alloc (.cells #[.slice p7 (n + 6) c7, .slice p8 (n + 48) c8] 52)) := Ev.below' hal8 (Nat.le_trans HH.out.hS HA8.out.size) HA8.out.size
                  have hE58 : Ev tg8 S0 w.heap.size wr w8 := HAP.out.ev.recol (fun b o hb => (HAP.out.col b o hb).symm) hs5
                  go_roundw
                  case rel => exact ⟨K + 1, gs ++ [.slice p7 (n + 6) c7, .slice p8 (n + 48) c8], tg8, by go_num, by have := HKL.out; omega, (HA8.out.low HH.out.hS hal8).push HH.out.hS (((HR5.out.recol HAP.out.col).keep (Nat.le_refl _) hE58).keep (Nat.le_refl _) hE8) (HAP.out.row.keep (Nat.le_refl _) hE8) (by omega) (by omega) HAP9.out⟩
                  case measure => have := HKL.out; simp [intOf]; omega

        · have hKz : ¬ (K : Int) < (vs.length : Int) := by omega
          obtain rfl : K = vs.length := by omega
          obtain ⟨N, hN⟩ : ∃ N, 2 * vs.length = N := ⟨_, rfl⟩
          have hNl : N ≤ 8388608 := by omega
          have HN := Lib.hid hN
          rw [hN]
          rw [hN] at HA
          clear hN
          go_wp2_with fail
          go_loop [11] (fun s => ∃ k : Nat, s = .int .i64 k ∧ k ≤ N) (fun s => N - (intOf s).toNat)
          case atStart => exact ⟨0, rfl, Nat.zero_le _⟩
          case round =>
            obtain ⟨k, rfl, hk⟩ := hrel
            by_cases hkl : k < N
            · have hkz : (k : Int) < (N : Int) := by omega
              obtain ⟨bg, cg', hge, hgc⟩ := HA.out.gcell (j := k) (by rw [HN.out]; exact hkl)
              simp only [Value.slice.injEq] at hge
              obtain ⟨rfl, _, rfl⟩ := hge
              obtain ⟨n, hrg, hnl⟩ := HA.out.gr k (by rw [HN.out]; exact hkl)
              obtain ⟨vk, hvk⟩ : ∃ vk, gs.getD k vz = vk := ⟨_, rfl⟩
              obtain ⟨h, hh⟩ : ∃ h, k / 2 = h := ⟨_, rfl⟩
              rw [hvk, hh] at hrg
              rw [hvk] at hgc
              obtain ⟨pk, ck, rfl, hpk⟩ := rowC_form hrg
              have e1 : (k : Int) / 2 = (h : Int) := by omega
              have hhl : h ≤ 4194304 := by omega
              have HRG := Lib.hid hrg
              have HPK := Lib.hid hpk
              have HKL := Lib.hid hkl
              have ne1 : (((h : Int) + 1000) != ((h : Int) + 1000)) = false := by simp
              clear hrg hpk hvk hh hkl
              go_wp2_with fail
              go_loop [12] (fun s => ∃ i : Nat, s = .int .i64 i ∧ i ≤ n) (fun s => n - (intOf s).toNat)
              case atStart => exact ⟨0, rfl, Nat.zero_le _⟩
              case round =>
                obtain ⟨i, rfl, hi⟩ := hrel
                by_cases hil : i < n
                · have hiz : (i : Int) < (n : Int) := by omega
                  obtain ⟨b, off, rfl⟩ := HPK.out (by omega)
                  have hcl := rowC_cell HRG.out (by omega) hil
                  go_wp2_with fail
                  go_round
                  case rel => exact ⟨i + 1, by go_num, by omega⟩
                  case measure => simp [intOf]; omega
                · have hiz : ¬ (i : Int) < (n : Int) := by omega
                  go_wp2_with fail
                  go_round
                  case rel => exact ⟨k + 1, by go_num, by have := HKL.out; omega⟩
                  case measure => have := HKL.out; simp [intOf]; omega
            · have hkz : ¬ (k : Int) < (N : Int) := by omega
              go_wp2_with fail
              go_loop [13] (fun s => ∃ k : Nat, s = .int .i64 k ∧ k ≤ vs.length) (fun s => vs.length - (intOf s).toNat)
              case atStart => exact ⟨0, rfl, Nat.zero_le _⟩
              case round =>
                obtain ⟨q, rfl, hq⟩ := hrel
                by_cases hql : q < vs.length
                · have hqz : (q : Int) < (vs.length : Int) := by omega
                  obtain ⟨b0, o0, rfl, hb0, ht0, hc0⟩ := HH.out.ls q hql
                  have ecl := HA.out.ls hb0 ht0 hc0
                  have hrk := HA.out.rows q hql
                  have hnl := HH.out.hn q hql
                  obtain ⟨vk, hvk⟩ : ∃ vk, vs.getD q vz = vk := ⟨_, rfl⟩
                  obtain ⟨n, hn⟩ : ∃ n, ns q = n := ⟨_, rfl⟩
                  rw [hvk, hn] at hrk
                  rw [hvk] at ecl
                  rw [hn] at hnl
                  obtain ⟨pk, ck, rfl, hpk⟩ := rowC_form hrk
                  have HRK := Lib.hid hrk
                  have HPK := Lib.hid hpk
                  have HQL := Lib.hid hql
                  have ne1 : (((q : Int) + 1000) != ((q : Int) + 1000)) = false := by simp
                  clear hrk hpk hvk hn hc0 hql
                  go_wp2_with fail
                  go_loop [14] (fun s => ∃ i : Nat, s = .int .i64 i ∧ i ≤ n) (fun s => n - (intOf s).toNat)
                  case atStart => exact ⟨0, rfl, Nat.zero_le _⟩
                  case round =>
                    obtain ⟨i, rfl, hi⟩ := hrel
                    by_cases hil : i < n
                    · have hiz : (i : Int) < (n : Int) := by omega
                      obtain ⟨b, off, rfl⟩ := HPK.out (by omega)
                      have hcl := rowC_cell HRK.out (by omega) hil
                      go_wp2_with fail
                      go_round
                      case rel => exact ⟨i + 1, by go_num, by omega⟩
                      case measure => simp [intOf]; omega
                    · have hiz : ¬ (i : Int) < (n : Int) := by omega
                      go_wp2_with fail
                      go_round
                      case rel => exact ⟨q + 1, by go_num, by have := HQL.out; omega⟩
                      case measure => have := HQL.out; simp [intOf]; omega
                · have hqz : ¬ (q : Int) < (vs.length : Int) := by omega
                  go_wp2_with fail
                  go_ret
                  exact ⟨rfl, HA.out.ev.below⟩
end Go.Proofs.YtnniohimbmnapaaDoor
