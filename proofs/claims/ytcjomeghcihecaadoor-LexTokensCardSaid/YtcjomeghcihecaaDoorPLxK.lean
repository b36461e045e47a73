/- Layer 4: the example that each statement asks first: it answers true. -/
import Derived.Test.YtcjomeghcihecaaDoorPLxL
import Derived.Lib.SmallJoins
namespace Go.Proofs.YtcjomeghcihecaaDoor
open Go Go.ChangeShapes Go.WideShapes Go.ChangeAt Go.RowKit Go.PlainAid Go.Maps
set_option linter.unusedVariables false
set_option linter.unusedSimpArgs false
def kSrc : Bs := [105, 102, 32, 97, 58, 10, 32, 32, 98, 10, 10, 35, 32, 99, 10, 100]
def kTs : List Tk := [⟨8, 1, [105, 102]⟩, ⟨4, 1, [97]⟩, ⟨9, 1, [58]⟩, ⟨1, 1, []⟩, ⟨2, 2, []⟩, ⟨4, 2, [98]⟩, ⟨1, 2, []⟩, ⟨3, 5, []⟩, ⟨4, 5, [100]⟩, ⟨1, 5, []⟩, ⟨0, 5, []⟩]
theorem toks_eval {ln d : Int} {c : UInt8} {r x : Bs} {p : Pc} {q : List Tk × Int} (h1 : tokD (c :: r) = some p) (h2 : skipR (r.drop (p.2.2 - 1)) = x) (h3 : toksD ln (depD d p.1 p.2.1) x = some q) : toksD ln d (c :: r) = some (⟨p.1, ln, p.2.1⟩ :: q.1, q.2) := by
  rw [toksD_cons, h1]
  simp only [h2, h3]
theorem k_toks1 : toksD 1 0 [105, 102, 32, 97, 58] = some ([⟨8, 1, [105, 102]⟩, ⟨4, 1, [97]⟩, ⟨9, 1, [58]⟩], 0) :=
  toks_eval (p := (8, [105, 102], 2)) (x := [97, 58]) (by decide) (by decide) (toks_eval (p := (4, [97], 1)) (x := [58]) (by decide) (by decide) (toks_eval (p := (9, [58], 1)) (x := []) (by decide) (by decide) (toksD_nil _ _)))
theorem k_toks2 : toksD 2 0 [98] = some ([⟨4, 2, [98]⟩], 0) := toks_eval (p := (4, [98], 1)) (x := []) (by decide) (by decide) (toksD_nil _ _)
theorem k_toks5 : toksD 5 0 [100] = some ([⟨4, 5, [100]⟩], 0) := toks_eval (p := (4, [100], 1)) (x := []) (by decide) (by decide) (toksD_nil _ _)
theorem rowD_eval {ln : Int} {s : LxS} {row x : Bs} {q : List Tk × List Int} {ts : List Tk × Int} (h1 : skipR row = x) (hx : x ≠ []) (h2 : (if s.d = 0 then indD ln (blkN row) s.op else some ([], s.op)) = some q) (h3 : toksD ln s.d x = some ts) : rowD ln s row = .ok (q.1 ++ ts.1 ++ endD ln ts.2, ⟨ts.2, q.2⟩) := by
  unfold rowD
  rw [h1, if_neg hx, h2]
  simp only [h3]
theorem k_lex : lexD kSrc = .ok kTs := by
  have hs : splitB kSrc = [[105, 102, 32, 97, 58], [32, 32, 98], [], [35, 32, 99], [100]] := by decide
  unfold lexD
  rw [if_neg (by decide), hs]
  have r1 : rowD 1 ⟨0, [0]⟩ [105, 102, 32, 97, 58] = .ok ([⟨8, 1, [105, 102]⟩, ⟨4, 1, [97]⟩, ⟨9, 1, [58]⟩, ⟨1, 1, []⟩], ⟨0, [0]⟩) :=
    rowD_eval (ln := 1) (s := ⟨0, [0]⟩) (row := [105, 102, 32, 97, 58]) (q := ([], [0])) (x := [105, 102, 32, 97, 58]) (by decide) (by decide) (by decide) k_toks1
  have r2 : rowD 2 ⟨0, [0]⟩ [32, 32, 98] = .ok ([⟨2, 2, []⟩, ⟨4, 2, [98]⟩, ⟨1, 2, []⟩], ⟨0, [2, 0]⟩) :=
    rowD_eval (ln := 2) (s := ⟨0, [0]⟩) (row := [32, 32, 98]) (q := ([⟨2, 2, []⟩], [2, 0])) (x := [98]) (by decide) (by decide) (by decide) k_toks2
  have r3 : rowD 3 ⟨0, [2, 0]⟩ [] = .ok ([], ⟨0, [2, 0]⟩) := rowD_empty (by decide) _ _
  have r4 : rowD 4 ⟨0, [2, 0]⟩ [35, 32, 99] = .ok ([], ⟨0, [2, 0]⟩) := rowD_empty (by decide) _ _
  have r5 : rowD 5 ⟨0, [2, 0]⟩ [100] = .ok ([⟨3, 5, []⟩, ⟨4, 5, [100]⟩, ⟨1, 5, []⟩], ⟨0, [0]⟩) :=
    rowD_eval (ln := 5) (s := ⟨0, [2, 0]⟩) (row := [100]) (q := ([⟨3, 5, []⟩], [0])) (x := [100]) (by decide) (by decide) (by decide) k_toks5
  simp only [rowsD, r1, show (1 : Int) + 1 = 2 from rfl, r2, show (2 : Int) + 1 = 3 from rfl, r3, show (3 : Int) + 1 = 4 from rfl, r4, show (4 : Int) + 1 = 5 from rfl, r5]
  rfl
/-- A slice of tokens, read. -/
def Rt (w : World) (v : Value) (ts : List Tk) : Prop := (∃ p, v = .slice p 0 0 ∧ ts = []) ∨ ∃ b off c, v = .slice (some ⟨b, off, none⟩) ts.length c ∧ ts.length ≤ c ∧
  ∀ i, i < ts.length → w.cell? ⟨b, off + i * 3, none⟩ = some (.int .i64 (ts.getD i tkZ).kind) ∧ w.cell? ⟨b, off + i * 3 + 1, none⟩ = some (.int .i64 (ts.getD i tkZ).line) ∧ w.cell? ⟨b, off + i * 3 + 2, none⟩ = some (.string (bsOf (ts.getD i tkZ).text))
theorem Rt.keep {w w' : World} {v : Value} {ts : List Tk} (h : Rt w v ts) (hb : Below w.heap.size w w') : Rt w' v ts := by
  rcases h with h | ⟨b, off, c, rfl, h1, h2⟩
  · exact .inl h
  · exact .inr ⟨b, off, c, rfl, h1, fun i hi => ⟨below_cell hb (h2 i hi).1, below_cell hb (h2 i hi).2.1, below_cell hb (h2 i hi).2.2⟩⟩
theorem Rt.of {w : World} {B : Nat} {v : Value} {ts : List Tk} (h : w.ownsRow B 33 3 v ts.length (flatT ts)) : Rt w v ts := by
  rcases h.2 with ⟨rfl, h2⟩ | ⟨g, c, cur, rfl, hg, r1, r2, r3, r4, r5⟩
  · exact .inl ⟨none, rfl, List.length_eq_zero_iff.1 h2⟩
  · refine .inr ⟨g, 0, c, rfl, r2, fun i hi => ?_⟩
    obtain ⟨f0, f1, f2⟩ := flatT_at ts i hi
    have hc : ∀ j u, j < ts.length * 3 → (flatT ts)[j]? = some u → w.cell? ⟨g, 0 + j, none⟩ = some u := fun j u hj hu => by
      have e := congrArg (fun l => l[j]?) r5
      simp only [List.getElem?_take, hu] at e
      rw [if_pos hj, Array.getElem?_toList] at e
      simp [World.cell?, r1, e]
    exact ⟨hc _ _ (by omega) f0, by rw [Nat.add_assoc]; exact hc _ _ (by omega) f1, by rw [Nat.add_assoc]; exact hc _ _ (by omega) f2⟩
theorem rt_form {w : World} {v : Value} {ts : List Tk} (h : Rt w v ts) : ∃ p c, v = .slice p ts.length c ∧ ts.length ≤ c ∧ (0 < ts.length → ∃ b off, p = some ⟨b, off, none⟩ ∧
    ∀ i, i < ts.length → w.cell? ⟨b, off + i * 3, none⟩ = some (.int .i64 (ts.getD i tkZ).kind) ∧ w.cell? ⟨b, off + i * 3 + 1, none⟩ = some (.int .i64 (ts.getD i tkZ).line) ∧ w.cell? ⟨b, off + i * 3 + 2, none⟩ = some (.string (bsOf (ts.getD i tkZ).text))) := by
  rcases h with ⟨p, rfl, rfl⟩ | ⟨b, off, c, rfl, h1, h2⟩
  · exact ⟨p, 0, rfl, Nat.le_refl _, fun h => by simp at h⟩
  · exact ⟨_, c, rfl, h1, fun _ => ⟨b, off, rfl, h2⟩⟩
theorem lexP_form {W w' : World} {r : Except (Int × Int) (List Tk)} {e : Ending} (h : LexP W r e w') : ∃ v a b, e = .returned (.tuple #[v, .int .i64 a, .int .i64 b]) := by
  cases r with
  | error p => exact ⟨_, _, _, h.1⟩
  | ok ts => obtain ⟨v, h1, _⟩ := h; exact ⟨_, _, _, h1⟩
set_option maxRecDepth 100000 in
set_option maxHeartbeats 2000000 in
theorem known04 (w : World) (htab : Lib.TabIs Tryd.prog w "strings.asciiSpace" .u8 Lib.asciiSpaceTab) :
    Calls Tryd.prog 11 #[] w fun e w' => e = .returned (.bool true) ∧ Below w.heap.size w w' := by
  have HTAB := Lib.hid htab
  clear htab
  go_enter Tryd.func11, Tryd.ntmps11
  have hcs := Go.Joins.run_convert_bytes_const_at (P := Tryd.prog) w 22 5 #[.int .u8 105, .int .u8 102, .int .u8 32, .int .u8 97, .int .u8 58, .int .u8 10, .int .u8 32, .int .u8 32, .int .u8 98, .int .u8 10, .int .u8 10, .int .u8 35, .int .u8 32, .int .u8 99, .int .u8 10, .int .u8 100] 16 16 w.heap.size rfl rfl rfl
  go_wp2_with fail
  obtain ⟨W1, hW1⟩ : ∃ W, w.alloc (.cells #[.int .u8 105, .int .u8 102, .int .u8 32, .int .u8 97, .int .u8 58, .int .u8 10, .int .u8 32, .int .u8 32, .int .u8 98, .int .u8 10, .int .u8 10, .int .u8 35, .int .u8 32, .int .u8 99, .int .u8 10, .int .u8 100] 5 (16, 17)) = W := ⟨_, rfl⟩
  have hB1 : Below w.heap.size w W1 := by rw [← hW1]; exact (Below.refl _ _).alloc (Nat.le_refl _) _
  have hR : R8 W1 (.slice (some ⟨w.heap.size, 0, none⟩) 16 16) kSrc := by
    refine .inr ⟨w.heap.size, 0, 16, rfl, by decide, by decide, fun i hi => ?_⟩
    rw [← hW1, Nat.zero_add]
    have hn := heap_alloc_new w (.cells #[.int .u8 105, .int .u8 102, .int .u8 32, .int .u8 97, .int .u8 58, .int .u8 10, .int .u8 32, .int .u8 32, .int .u8 98, .int .u8 10, .int .u8 10, .int .u8 35, .int .u8 32, .int .u8 99, .int .u8 10, .int .u8 100] 5 (16, 17))
    rw [World.cell?, hn]
    have hi' : i < 16 := hi
    clear hW1 hB1 hcs
    revert i
    intro i _ hi'
    match i, hi' with
    | 0, _ => rfl | 1, _ => rfl | 2, _ => rfl | 3, _ => rfl | 4, _ => rfl | 5, _ => rfl | 6, _ => rfl | 7, _ => rfl | 8, _ => rfl | 9, _ => rfl | 10, _ => rfl | 11, _ => rfl | 12, _ => rfl | 13, _ => rfl | 14, _ => rfl | 15, _ => rfl
    | n + 16, h => exact absurd h (by omega)
  rw [hW1]
  clear hW1
  have HL := Lib.hid (lex_any _ kSrc W1 hR (tabS_keep HTAB.out hB1))
  rw [k_lex] at HL
  refine HL.out.mono ?_
  rintro e w2 ⟨v2, rfl, hown, hb2⟩
  have HB2 := Lib.hid (hB1.trans (hb2.mono hB1.size))
  have hrt := Rt.of hown
  obtain ⟨p2, c2, rfl, hc2, hcellx⟩ := rt_form hrt
  obtain ⟨b, off, rfl, hcell⟩ := hcellx (by decide)
  clear hcellx
  have q4 := hcell 4 (by decide)
  have q7 := hcell 7 (by decide)
  have q8 := hcell 8 (by decide)
  obtain ⟨q40, q41, q42⟩ := q4
  obtain ⟨q70, q71, q72⟩ := q7
  obtain ⟨q80, q81, q82⟩ := q8
  have hl : kTs.length = 11 := rfl
  rw [hl] at hc2 ⊢
  simp only [show kTs.getD 4 tkZ = ⟨2, 2, []⟩ from rfl, show kTs.getD 7 tkZ = ⟨3, 5, []⟩ from rfl, show kTs.getD 8 tkZ = ⟨4, 5, [100]⟩ from rfl] at q40 q41 q42 q70 q71 q72 q80 q81 q82
  clear hcell hrt hown hb2 hB1 hR HL hl
  clear hcs
  have hb0 : (bsOf []).toList = [] := by unfold bsOf; simp
  have hb1 : (bsOf [100]).toList = [100] := by unfold bsOf; simp
  go_wp2_with fail
  go_ret
  exact ⟨rfl, HB2.out⟩
end Go.Proofs.YtcjomeghcihecaaDoor
