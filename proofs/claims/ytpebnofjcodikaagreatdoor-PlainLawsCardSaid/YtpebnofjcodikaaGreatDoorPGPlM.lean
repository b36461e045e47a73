/- A byte written to a builder of the call's own; Quote of a string. Layer 15: Quote of a string. Layer 15: a string's hash. A plain value stored into a box. -/
import Derived.Test.YtpebnofjcodikaaGreatDoorPGPlH
import Derived.Test.YtpebnofjcodikaaGreatDoorPGWd
import Derived.Test.YtpebnofjcodikaaGreatDoorPGWg
import Derived.LoopTactic
import Derived.Test.YtpebnofjcodikaaGreatDoorPGWc
namespace Go.Proofs.YtpebnofjcodikaaGreatDoor
section
open Go Go.ChangeShapes Go.WideShapes Go.ChangeAt Go.RowKit Go.PlainAid
set_option linter.unusedVariables false
set_option linter.unusedSimpArgs false
set_option maxRecDepth 100000 in
set_option maxHeartbeats 1000000 in
theorem writeByte_any (B b : Nat) (bs : List Value) (c : Int) (w : World) (h : Lib.IsBuilder BT BE B b bs w) (hlen : bs.length + 1 ≤ 1000000) (hBw : B ≤ w.heap.size) :
    Calls Tryz.prog 37 #[.pointer (some ⟨b, 0, none⟩), .int .u8 c] w fun e w' => e = .returned .nilIface ∧ Lib.BuilderAt BT BE B b (.pointer (some ⟨b, 0, none⟩)) (bs ++ [.int .u8 c]) w' ∧ Below B w w' := by
  obtain ⟨i0, hi, hz0, hz1, hz2⟩ := info_parts builderByte
  go_enter Tryz.func37, Tryz.ntmps37
  go_wp2_with fail
  refine (copyCheck_any B b bs _ h).mono ?_
  rintro e w1 ⟨rfl, ⟨hB, v, hbk, hown, hne⟩, hb1⟩
  have hlt : b < w1.heap.size := (Array.getElem?_eq_some_iff.1 hbk).1
  have c0 : w1.cell? ⟨b, 0, none⟩ = some (.pointer (some ⟨b, 0, none⟩)) := by rw [Lib.cell_of_heap hbk]; rfl
  have c1 : w1.cell? ⟨b, 1, none⟩ = some v := by rw [Lib.cell_of_heap hbk]; rfl
  have HO := Lib.hid hown
  have HB := Lib.hid hbk
  have HN := Lib.hid hne
  have HB1 := Lib.hid hb1
  have hsz := hb1.size
  clear hown hbk hne hb1
  go_wp2_with (at_builtin; refine wpList_append_own _ rfl _ _ 38 rfl B BE i0 (.int .u8 0) 1 1 Tryz.underlying38 hi hz0 hz1 hz2 rfl (by decide) _ _ _ rfl (HO.out.alloc _) ⟨w1.heap.size, 0, none⟩ 1 1 [.int .u8 c] rfl rfl ?c1 ?c2 ?c3 ?c4 ?c5 ?_)
  case c1 =>
    intro j u hj
    rcases j with _ | j
    · obtain rfl := Option.some.inj hj
      simp [Addr.add]
    · simp at hj
  case c2 => intro u hu; obtain rfl := List.mem_singleton.1 hu; rfl
  case c3 => unfold maxLen; omega
  case c4 => omega
  case c5 => simp; omega
  intro v' w2 hown' hgrow _
  have hb2 : w2.heap[b]? = some (.cells #[.pointer (some ⟨b, 0, none⟩), v] BT (0, 0)) := by
    rw [hgrow.block b (by simp; omega) (fun e => HN.out e.symm), Lib.alloc_old w1 _ b hlt]
    exact HB.out
  have d1 : w2.cell? ⟨b, 1, none⟩ = some v := by rw [Lib.cell_of_heap hb2]; rfl
  have f1 : w2.frozen? ⟨b, 1, none⟩ = false := Lib.frozen_of_heap hb2 1
  obtain ⟨p', n', c', rfl⟩ := owned_form hown'
  have HO2 := Lib.hid hown'
  have HG := Lib.hid hgrow
  have HB2 := Lib.hid hb2
  clear hown' hgrow hb2
  go_wp2_with fail
  go_ret
  refine ⟨rfl, ?_, ?_⟩
  · exact Lib.BuilderAt.put (T := BT) (e := BE) hB HB2.out (bs' := bs ++ [.int .u8 c]) (by simpa using HO2.out) (by decide)
  · exact ((HB1.out.alloc (by omega) _).grown HG.out (by simp; omega) (fun k hk => (World.ownsRow.lt HO.out k hk).1)).setCell (p := ⟨b, 1, none⟩) hB _
end
section
open Go Go.ChangeShapes Go.WideShapes Go.ChangeAt Go.RowKit Go.PlainAid
set_option linter.unusedVariables false
set_option linter.unusedSimpArgs false
def hexD (n : Nat) : UInt8 := if n < 10 then UInt8.ofNat (48 + n) else UInt8.ofNat (87 + n)
/-- A byte as a source has it within quotes. -/
def escQ (c : UInt8) : List UInt8 :=
  if (c.toNat : Int) == 10 then [92, 110] else if (c.toNat : Int) == 9 then [92, 116] else if ((c.toNat : Int) == 92 || (c.toNat : Int) == 39) = true then [92, c]
  else if (decide ((c.toNat : Int) < 32) || decide ((126 : Int) < (c.toNat : Int))) = true then [92, 120, hexD (c.toNat / 16), hexD (c.toNat % 16)] else [c]
theorem hex_bt : ∀ k, k < 16 → bt ⟨#[48, 49, 50, 51, 52, 53, 54, 55, 56, 57, 97, 98, 99, 100, 101, 102]⟩ k = ((hexD k).toNat : Int) := by decide +kernel
theorem and15 {x : Int} (h0 : 0 ≤ x) (h1 : x ≤ 255) : bits BinOp.and IntKind.u8 x 15 = x % 16 := by
  obtain ⟨n, rfl⟩ : ∃ n : Nat, x = (n : Int) := ⟨x.toNat, by omega⟩
  have : ∀ n, n < 256 → bits BinOp.and IntKind.u8 ((n : Nat) : Int) 15 = ((n : Nat) : Int) % 16 := by decide +kernel
  exact this n (by omega)
/-- The first i bytes within quotes, the quote ahead. -/
def qPre (s : ByteArray) (i : Nat) : List UInt8 := 39 :: (s.data.toList.take i).flatMap escQ
theorem esc_len (c : UInt8) : (escQ c).length ≤ 4 := by
  unfold escQ; repeat' split
  all_goals simp
theorem flat_len : ∀ l : List UInt8, (l.flatMap escQ).length ≤ 4 * l.length
  | [] => by simp
  | c :: r => by
    have h1 := esc_len c
    have h2 := flat_len r
    simp only [List.flatMap_cons, List.length_append, List.length_cons]
    omega
theorem pre_len (s : ByteArray) (i : Nat) (h : s.size ≤ 20000) : (qPre s i).length ≤ 80001 := by
  have h1 := flat_len (s.data.toList.take i)
  have h2 : (s.data.toList.take i).length ≤ s.size := by rw [List.length_take]; have : s.data.toList.length = s.size := by simp
                                                         omega
  unfold qPre
  simp only [List.length_cons]
  omega
theorem pre_step (s : ByteArray) {i : Nat} (h : i < s.size) : ∃ c : UInt8, bt s i = (c.toNat : Int) ∧ qPre s (i + 1) = qPre s i ++ escQ c := by
  obtain ⟨c, h1, h2⟩ := btl s h
  refine ⟨c, h2, ?_⟩
  unfold qPre
  rw [List.take_add_one, h1]
  simp
theorem bcells (l : List UInt8) (c : UInt8) (x : Int) (h : x = (c.toNat : Int)) : Lib.byteCells l ++ [.int .u8 x] = Lib.byteCells (l ++ [c]) := by
  rw [h]; simp [Lib.byteCells]
theorem scells (l : List UInt8) (t : ByteArray) : Lib.byteCells l ++ Lib.strCells t = Lib.byteCells (l ++ t.data.toList) := by simp [Lib.byteCells, Lib.strCells]
set_option maxRecDepth 100000 in
set_option maxHeartbeats 8000000 in
theorem quote_any (y n : Bool) (u : Value) (ws : List Int) (b : Nat) (s : ByteArray) (ip : Option Addr) (m ic : Nat) (w : World) (hb : b < 18446744073709551616) (hr : Rd w u ws) (hf : Fit ws) (hm : (m : Int) ≤ 9223372036854775807) (hs : s.size ≤ 20000) (hg : goodP 4 y n ws b s m = true) :
    Calls Tryz.prog 14 #[.agg #[.int .i64 4, .bool y, .bool n, u, .int .u64 (b : Int), .string s, .slice ip m ic]] w fun e w' => e = .returned (.string ⟨(qPre s s.size ++ [39]).toArray⟩) ∧ Below w.heap.size w w' := by
  obtain ⟨p, c, rfl, hc, hwm, hp⟩ := rd_form hr
  have HB1 := Lib.hid (show Below w.heap.size w (w.alloc (.cells #[.int .i64 4, .bool y, .bool n, .slice p ws.length c, .int .u64 (b : Int), .string s, .slice ip m ic] 28)) from (Below.refl _ _).alloc (Nat.le_refl _) _)
  have HX1 := Lib.hid (Bx7.new w (.int .i64 4) (.bool y) (.bool n) (.slice p ws.length c) (.int .u64 (b : Int)) (.string s) (.slice ip m ic) 28 rfl)
  have HG := Lib.hid (good15_any 4 y n _ ws b s ip m ic _ hb (hr.keep HB1.out) hf hm (by omega))
  rw [hg] at HG
  obtain ⟨W1, hW1⟩ : ∃ x, w.alloc (.cells #[.int .i64 4, .bool y, .bool n, .slice p ws.length c, .int .u64 (b : Int), .string s, .slice ip m ic] 28) = x := ⟨_, rfl⟩
  rw [hW1] at HB1 HX1 HG
  have hgb := get_bt s
  have HLN := Lib.hid (fun i => pre_len s i hs)
  have hsz : (s.size : Int) ≤ 20000 := by omega
  clear hr hf hp hg
  have c0 := HX1.out.c0
  have c1 := HX1.out.c1
  have c2 := HX1.out.c2
  have c3 := HX1.out.c3
  have c4 := HX1.out.c4
  have c5 := HX1.out.c5
  have c6 := HX1.out.c6
  go_enter Tryz.func14, Tryz.ntmps14
  go_wp2_with (first
    | (go_at_call 19; (try rw [hW1]); refine HG.out.mono ?_; rintro e w2 ⟨rfl, hbb⟩; have HB2 := Lib.hid (HB1.out.trans (hbb.mono HB1.out.size)); have HX2 := Lib.hid (HX1.out.keep hbb); clear hbb HG hW1)
    | fail)
  refine (writeByte_any w2.heap.size w2.heap.size [] 39 _ (Lib.fresh_isBuilder BT BE w2) (by simp) (by simp)).mono ?_
  rintro e w3 ⟨rfl, hBu, hb3⟩
  have HBU := Lib.hid (show Lib.BuilderAt BT BE w2.heap.size w2.heap.size (.pointer (some ⟨w2.heap.size, 0, none⟩)) (Lib.byteCells (qPre s 0)) w3 by simpa [qPre, Lib.byteCells] using hBu)
  have HB3 := Lib.hid (show Below w2.heap.size w2 w3 from ((Below.refl _ _).alloc (Nat.le_refl _) _).trans hb3)
  have e5 := below_cell HB3.out HX2.out.c5
  clear hBu hb3 c0 c1 c2 c3 c4 c5 c6
  go_wp2_with fail
  go_loopw [4, 5, 20] (fun _ _ iv wr => ∃ i : Nat, iv = .int .i64 i ∧ i ≤ s.size ∧ Lib.BuilderAt BT BE w2.heap.size w2.heap.size (.pointer (some ⟨w2.heap.size, 0, none⟩)) (Lib.byteCells (qPre s i)) wr ∧ Below w2.heap.size w2 wr) (fun _ _ iv _ => s.size - (intOf iv).toNat)
  case atStart => exact ⟨0, by go_num, by omega, HBU.out, HB3.out⟩
  case round =>
    obtain ⟨i, rfl, hi, hbu, hbw⟩ := hrel
    obtain ⟨w4, rfl⟩ : ∃ w4 : World, w4 = wr := ⟨_, rfl⟩
    have HUw4 := Lib.hid hbu
    have HSw4 := Lib.hid hbw
    have f5 := below_cell hbw HX2.out.c5
    clear hbu hbw e5
    by_cases hlt : i < s.size
    · obtain ⟨ch, hch, hst⟩ := pre_step s hlt
      have HST := Lib.hid hst
      have hiz : (i : Int) < (s.size : Int) := by omega
      have hgi := hgb i hlt
      have hE : escQ ch = (if (ch.toNat : Int) == 10 then [92, 110] else if (ch.toNat : Int) == 9 then [92, 116] else if ((ch.toNat : Int) == 92 || (ch.toNat : Int) == 39) = true then [92, ch] else if (decide ((ch.toNat : Int) < 32) || decide ((126 : Int) < (ch.toNat : Int))) = true then [92, 120, hexD (ch.toNat / 16), hexD (ch.toNat % 16)] else [ch]) := rfl
      have hxl : (0 : Int) ≤ (ch.toNat : Int) ∧ (ch.toNat : Int) ≤ 255 := by have := ch.toNat_lt; omega
      obtain ⟨x, hx⟩ : ∃ x : Int, (ch.toNat : Int) = x := ⟨_, rfl⟩
      have HX := Lib.hid hx
      rw [hx] at hE hch hxl
      rw [hch] at hgi
      obtain ⟨hx0, hx1⟩ := hxl
      obtain ⟨q10, h10⟩ : ∃ q, (x == 10) = q := ⟨_, rfl⟩
      obtain ⟨q9, h9⟩ : ∃ q, (x == 9) = q := ⟨_, rfl⟩
      obtain ⟨q92, h92⟩ : ∃ q, (x == 92) = q := ⟨_, rfl⟩
      obtain ⟨q39, h39⟩ : ∃ q, (x == 39) = q := ⟨_, rfl⟩
      obtain ⟨ql, hl32⟩ : ∃ q, decide (x < 32) = q := ⟨_, rfl⟩
      obtain ⟨qh, hh126⟩ : ∃ q, decide (126 < x) = q := ⟨_, rfl⟩
      rw [h10, h9, h92, h39, hl32, hh126] at hE
      have HE := Lib.hid hE
      have hG := get_bt ⟨#[48, 49, 50, 51, 52, 53, 54, 55, 56, 57, 97, 98, 99, 100, 101, 102]⟩
      have hand := and15 hx0 hx1
      have g1 := hex_bt (x / 16).toNat (by omega)
      have g2 := hex_bt (x % 16).toNat (by omega)
      have HI1 := Lib.hid (show (x / 16).toNat = ch.toNat / 16 by omega)
      have HI2 := Lib.hid (show (x % 16).toNat = ch.toNat % 16 by omega)
      have hr0 : 0 ≤ x % 16 := by omega
      have hr1 : x % 16 < 16 := by omega
      have hd0 : 0 ≤ x / 16 := by omega
      have hd1 : x / 16 < 16 := by omega
      rw [HI1.out] at g1
      rw [HI2.out] at g2
      obtain ⟨r1, hr1e⟩ : ∃ r, x / 16 = r := ⟨_, rfl⟩
      obtain ⟨r2, hr2e⟩ : ∃ r, x % 16 = r := ⟨_, rfl⟩
      rw [hr1e] at HI1 hd0 hd1
      rw [hr2e] at HI2 hand hr0 hr1
      rw [← HI1.out] at g1
      rw [← HI2.out] at g2
      clear hE hst hx
      cases q10
      · cases q9
        · have wq : q92 = true ∨ (q92 = false ∧ q39 = true) ∨ (q92 = false ∧ q39 = false) := by cases q92 <;> cases q39 <;> simp
          rcases wq with rfl | ⟨rfl, rfl⟩ | ⟨rfl, rfl⟩
          · simp only [Bool.false_eq_true, if_false, Bool.true_or, Bool.or_true, if_true] at HE
            go_wp2_with fail
            refine (writeByte_any w2.heap.size w2.heap.size _ 92 w4 (.inr HUw4.out) (by rw [Lib.byteCells_length]; have := HLN.out i; (try simp only [List.length_append, List.length_cons, List.length_nil]); omega) HSw4.out.size).mono ?_
            rintro e w5 ⟨rfl, hBu, hbb⟩
            rw [bcells _ 92 92 rfl] at hBu
            have HUw5 := Lib.hid hBu
            have HSw5 := Lib.hid (HSw4.out.trans hbb)
            clear hBu hbb
            go_wp2_with fail
            refine (writeByte_any w2.heap.size w2.heap.size _ x w5 (.inr HUw5.out) (by rw [Lib.byteCells_length]; have := HLN.out i; (try simp only [List.length_append, List.length_cons, List.length_nil]); omega) HSw5.out.size).mono ?_
            rintro e w6 ⟨rfl, hBu, hbb⟩
            rw [bcells _ ch x HX.out.symm] at hBu
            have HUw6 := Lib.hid hBu
            have HSw6 := Lib.hid (HSw5.out.trans hbb)
            clear hBu hbb
            go_wp2_with fail
            go_roundw
            case rel => exact ⟨i + 1, by go_num, by omega, by rw [HST.out, HE.out]; simpa using HUw6.out, HSw6.out⟩
            case measure => simp [intOf]; omega
          · simp only [Bool.false_eq_true, if_false, Bool.true_or, Bool.or_true, if_true] at HE
            go_wp2_with fail
            refine (writeByte_any w2.heap.size w2.heap.size _ 92 w4 (.inr HUw4.out) (by rw [Lib.byteCells_length]; have := HLN.out i; (try simp only [List.length_append, List.length_cons, List.length_nil]); omega) HSw4.out.size).mono ?_
            rintro e w5 ⟨rfl, hBu, hbb⟩
            rw [bcells _ 92 92 rfl] at hBu
            have HUw5 := Lib.hid hBu
            have HSw5 := Lib.hid (HSw4.out.trans hbb)
            clear hBu hbb
            go_wp2_with fail
            refine (writeByte_any w2.heap.size w2.heap.size _ x w5 (.inr HUw5.out) (by rw [Lib.byteCells_length]; have := HLN.out i; (try simp only [List.length_append, List.length_cons, List.length_nil]); omega) HSw5.out.size).mono ?_
            rintro e w6 ⟨rfl, hBu, hbb⟩
            rw [bcells _ ch x HX.out.symm] at hBu
            have HUw6 := Lib.hid hBu
            have HSw6 := Lib.hid (HSw5.out.trans hbb)
            clear hBu hbb
            go_wp2_with fail
            go_roundw
            case rel => exact ⟨i + 1, by go_num, by omega, by rw [HST.out, HE.out]; simpa using HUw6.out, HSw6.out⟩
            case measure => simp [intOf]; omega
          · have wl : ql = true ∨ (ql = false ∧ qh = true) ∨ (ql = false ∧ qh = false) := by cases ql <;> cases qh <;> simp
            rcases wl with rfl | ⟨rfl, rfl⟩ | ⟨rfl, rfl⟩
            · simp only [Bool.false_eq_true, if_false, Bool.true_or, Bool.or_true, Bool.or_self, if_true] at HE
              go_wp2_with fail
              refine (writeString_any w2.heap.size w2.heap.size _ ⟨#[92, 120]⟩ w4 (.inr HUw4.out) (by rw [Lib.byteCells_length]; have := HLN.out i; rw [show (⟨#[92, 120]⟩ : ByteArray).size = 2 from rfl]; omega) HSw4.out.size).mono ?_
              rintro e w5 ⟨rfl, hBu, hbb⟩
              rw [scells] at hBu
              have HUw5 := Lib.hid hBu
              have HSw5 := Lib.hid (HSw4.out.trans hbb)
              clear hBu hbb
              go_wp2_with fail
              refine (writeByte_any w2.heap.size w2.heap.size _ _ w5 (.inr HUw5.out) (by rw [Lib.byteCells_length]; have := HLN.out i; (try simp only [List.length_append, List.length_cons, List.length_nil]); omega) HSw5.out.size).mono ?_
              rintro e w6 ⟨rfl, hBu, hbb⟩
              rw [bcells _ (hexD r1.toNat) _ rfl] at hBu
              have HUw6 := Lib.hid hBu
              have HSw6 := Lib.hid (HSw5.out.trans hbb)
              clear hBu hbb
              go_wp2_with fail
              refine (writeByte_any w2.heap.size w2.heap.size _ _ w6 (.inr HUw6.out) (by rw [Lib.byteCells_length]; have := HLN.out i; (try simp only [List.length_append, List.length_cons, List.length_nil]); omega) HSw6.out.size).mono ?_
              rintro e w7 ⟨rfl, hBu, hbb⟩
              rw [bcells _ (hexD r2.toNat) _ rfl] at hBu
              have HUw7 := Lib.hid hBu
              have HSw7 := Lib.hid (HSw6.out.trans hbb)
              clear hBu hbb
              go_wp2_with fail
              go_roundw
              case rel => exact ⟨i + 1, by go_num, by omega, by rw [HST.out, HE.out, ← HI1.out, ← HI2.out]; simpa using HUw7.out, HSw7.out⟩
              case measure => simp [intOf]; omega
            · simp only [Bool.false_eq_true, if_false, Bool.true_or, Bool.or_true, Bool.or_self, if_true] at HE
              go_wp2_with fail
              refine (writeString_any w2.heap.size w2.heap.size _ ⟨#[92, 120]⟩ w4 (.inr HUw4.out) (by rw [Lib.byteCells_length]; have := HLN.out i; rw [show (⟨#[92, 120]⟩ : ByteArray).size = 2 from rfl]; omega) HSw4.out.size).mono ?_
              rintro e w5 ⟨rfl, hBu, hbb⟩
              rw [scells] at hBu
              have HUw5 := Lib.hid hBu
              have HSw5 := Lib.hid (HSw4.out.trans hbb)
              clear hBu hbb
              go_wp2_with fail
              refine (writeByte_any w2.heap.size w2.heap.size _ _ w5 (.inr HUw5.out) (by rw [Lib.byteCells_length]; have := HLN.out i; (try simp only [List.length_append, List.length_cons, List.length_nil]); omega) HSw5.out.size).mono ?_
              rintro e w6 ⟨rfl, hBu, hbb⟩
              rw [bcells _ (hexD r1.toNat) _ rfl] at hBu
              have HUw6 := Lib.hid hBu
              have HSw6 := Lib.hid (HSw5.out.trans hbb)
              clear hBu hbb
              go_wp2_with fail
              refine (writeByte_any w2.heap.size w2.heap.size _ _ w6 (.inr HUw6.out) (by rw [Lib.byteCells_length]; have := HLN.out i; (try simp only [List.length_append, List.length_cons, List.length_nil]); omega) HSw6.out.size).mono ?_
              rintro e w7 ⟨rfl, hBu, hbb⟩
              rw [bcells _ (hexD r2.toNat) _ rfl] at hBu
              have HUw7 := Lib.hid hBu
              have HSw7 := Lib.hid (HSw6.out.trans hbb)
              clear hBu hbb
              go_wp2_with fail
              go_roundw
              case rel => exact ⟨i + 1, by go_num, by omega, by rw [HST.out, HE.out, ← HI1.out, ← HI2.out]; simpa using HUw7.out, HSw7.out⟩
              case measure => simp [intOf]; omega
            · simp only [Bool.false_eq_true, if_false, Bool.or_self] at HE
              go_wp2_with fail
              refine (writeByte_any w2.heap.size w2.heap.size _ x w4 (.inr HUw4.out) (by rw [Lib.byteCells_length]; have := HLN.out i; (try simp only [List.length_append, List.length_cons, List.length_nil]); omega) HSw4.out.size).mono ?_
              rintro e w5 ⟨rfl, hBu, hbb⟩
              rw [bcells _ ch x HX.out.symm] at hBu
              have HUw5 := Lib.hid hBu
              have HSw5 := Lib.hid (HSw4.out.trans hbb)
              clear hBu hbb
              go_wp2_with fail
              go_roundw
              case rel => exact ⟨i + 1, by go_num, by omega, by rw [HST.out, HE.out]; simpa using HUw5.out, HSw5.out⟩
              case measure => simp [intOf]; omega
        · simp only [Bool.false_eq_true, if_false, if_true] at HE
          go_wp2_with fail
          refine (writeString_any w2.heap.size w2.heap.size _ ⟨#[92, 116]⟩ w4 (.inr HUw4.out) (by rw [Lib.byteCells_length]; have := HLN.out i; rw [show (⟨#[92, 116]⟩ : ByteArray).size = 2 from rfl]; omega) HSw4.out.size).mono ?_
          rintro e w5 ⟨rfl, hBu, hbb⟩
          rw [scells] at hBu
          have HUw5 := Lib.hid hBu
          have HSw5 := Lib.hid (HSw4.out.trans hbb)
          clear hBu hbb
          go_wp2_with fail
          go_roundw
          case rel => exact ⟨i + 1, by go_num, by omega, by rw [HST.out, HE.out]; simpa using HUw5.out, HSw5.out⟩
          case measure => simp [intOf]; omega
      · simp only [if_true] at HE
        go_wp2_with fail
        refine (writeString_any w2.heap.size w2.heap.size _ ⟨#[92, 110]⟩ w4 (.inr HUw4.out) (by rw [Lib.byteCells_length]; have := HLN.out i; rw [show (⟨#[92, 110]⟩ : ByteArray).size = 2 from rfl]; omega) HSw4.out.size).mono ?_
        rintro e w5 ⟨rfl, hBu, hbb⟩
        rw [scells] at hBu
        have HUw5 := Lib.hid hBu
        have HSw5 := Lib.hid (HSw4.out.trans hbb)
        clear hBu hbb
        go_wp2_with fail
        go_roundw
        case rel => exact ⟨i + 1, by go_num, by omega, by rw [HST.out, HE.out]; simpa using HUw5.out, HSw5.out⟩
        case measure => simp [intOf]; omega
    · obtain rfl : i = s.size := by omega
      go_wp2_with fail
      refine (writeByte_any w2.heap.size w2.heap.size _ 39 w4 (.inr HUw4.out) (by rw [Lib.byteCells_length]; have := HLN.out s.size; omega) HSw4.out.size).mono ?_
      rintro e w5 ⟨rfl, hBu, hbb⟩
      rw [bcells _ 39 39 rfl] at hBu
      have HUw5 := Lib.hid hBu
      have HSw5 := Lib.hid (HSw4.out.trans hbb)
      clear hBu hbb
      go_wp2_with fail
      refine (Tryz.Builder_String_any w2.heap.size w2.heap.size (qPre s s.size ++ [39]) w5 (.inr HUw5.out) HSw5.out.size).mono ?_
      rintro e w6 ⟨rfl, hbb⟩
      have HB6 := Lib.hid (HB2.out.trans ((HSw5.out.trans hbb).mono HB2.out.size))
      clear hbb
      go_wp2_with fail
      go_ret
      exact ⟨rfl, HB6.out⟩
end
section
open Go Go.ChangeShapes Go.WideShapes Go.ChangeAt Go.RowKit
set_option linter.unusedVariables false
set_option linter.unusedSimpArgs false
theorem good_len {k : Int} {y n : Bool} {ws : List Int} {b : Nat} {s : ByteArray} {m : Nat} (h : goodP k y n ws b s m = true) (h4 : k = 4) : s.size ≤ 20000 := by
  subst h4
  unfold goodP at h
  simp at h
  omega
set_option maxRecDepth 100000 in
set_option maxHeartbeats 4000000 in
theorem hash_str (s : ByteArray) (w : World) (hg : goodP 4 false false [] 0 s 0 = true) (hs : (s.size : Int) ≤ 9223372036854775807) :
    Calls Tryz.prog 16 #[.agg #[.int .i64 4, .bool false, .bool false, .slice none 0 0, .int .u64 0, .string s, .slice none 0 0]] w fun e w' => e = .returned (.int .i64 (hsT s.data.toList (s.size : Int))) ∧ Below w.heap.size w w' := by
  have HB1 := Lib.hid (show Below w.heap.size w (w.alloc (.cells #[.int .i64 4, .bool false, .bool false, .slice none 0 0, .int .u64 0, .string s, .slice none 0 0] 28)) from (Below.refl _ _).alloc (Nat.le_refl _) _)
  have HX1 := Lib.hid (Bx7.new w (.int .i64 4) (.bool false) (.bool false) (.slice none 0 0) (.int .u64 0) (.string s) (.slice none 0 0) 28 rfl)
  have HG := Lib.hid (fun W => good15_any 4 false false (.slice none 0 0) [] 0 s none 0 0 W (by decide) (rd_nil W) fit_nil (by decide) hs)
  rw [hg] at HG
  have HHT := Lib.hid (fun W => hashText_any s W (by have := good_len hg rfl; omega))
  obtain ⟨W1, hW1⟩ : ∃ x, w.alloc (.cells #[.int .i64 4, .bool false, .bool false, .slice none 0 0, .int .u64 0, .string s, .slice none 0 0] 28) = x := ⟨_, rfl⟩
  rw [hW1] at HB1 HX1
  clear hg
  have c0 := HX1.out.c0
  have c1 := HX1.out.c1
  have c2 := HX1.out.c2
  have c3 := HX1.out.c3
  have c4 := HX1.out.c4
  have c5 := HX1.out.c5
  have c6 := HX1.out.c6
  go_enter Tryz.func16, Tryz.ntmps16
  go_wp2_with (first
    | (go_at_call 19; (try rw [hW1]); refine (HG.out _).mono ?_; rintro e w2 ⟨rfl, hbb⟩; have HB2 := Lib.hid (HB1.out.trans (hbb.mono HB1.out.size)); have d0 := below_cell hbb c0; have d1 := below_cell hbb c1; have d2 := below_cell hbb c2; have d3 := below_cell hbb c3; have d4 := below_cell hbb c4; have d5 := below_cell hbb c5; have d6 := below_cell hbb c6; clear hbb HG)
    | (go_at_call 41; (with_reducible refine (HHT.out _).mono ?_); rintro e w9 ⟨rfl, rfl⟩)
    | fail)
  go_ret
  exact ⟨by rfl, HB2.out⟩
end
section
open Go Go.ChangeShapes Go.WideShapes Go.ChangeAt Go.RowKit
set_option linter.unusedVariables false
set_option linter.unusedSimpArgs false
@[reducible] def put7 (w : World) (B : Nat) (v0 v1 v2 v3 v4 v5 v6 : Value) : World :=
  ((((((w.setCell ⟨B, 0, none⟩ v0).setCell ⟨B, 1, none⟩ v1).setCell ⟨B, 2, none⟩ v2).setCell ⟨B, 3, none⟩ v3).setCell ⟨B, 4, none⟩ v4).setCell ⟨B, 5, none⟩ v5).setCell ⟨B, 6, none⟩ v6
theorem off_ne {B i j : Nat} (h : i ≠ j) : (⟨B, i, none⟩ : Addr) ≠ ⟨B, j, none⟩ := fun e => h (by injection e)
theorem put7_bx {w : World} {B : Nat} {a0 a1 a2 a3 a4 a5 a6 : Value} (h : Bx7 w B a0 a1 a2 a3 a4 a5 a6) (v0 v1 v2 v3 v4 v5 v6 : Value) : Bx7 (put7 w B v0 v1 v2 v3 v4 v5 v6) B v0 v1 v2 v3 v4 v5 v6 := by
  unfold put7
  have o : ∀ {w : World} {i j : Nat} {x v : Value}, i ≠ j → w.cell? ⟨B, j, none⟩ = some v → (w.setCell ⟨B, i, none⟩ x).cell? ⟨B, j, none⟩ = some v := fun hn hc => (World.cell?_setCell_other _ _ _ _ (off_ne hn)).trans hc
  have s : ∀ {w : World} {i : Nat} {x v : Value}, w.cell? ⟨B, i, none⟩ = some v → (w.setCell ⟨B, i, none⟩ x).cell? ⟨B, i, none⟩ = some x := fun hc => World.cell?_setCell_same _ _ _ hc
  refine ⟨?_, ?_, ?_, ?_, ?_, ?_, ?_⟩
  · exact o (by decide) (o (by decide) (o (by decide) (o (by decide) (o (by decide) (o (by decide) (s h.c0))))))
  · exact o (by decide) (o (by decide) (o (by decide) (o (by decide) (o (by decide) (s (o (by decide) h.c1))))))
  · exact o (by decide) (o (by decide) (o (by decide) (o (by decide) (s (o (by decide) (o (by decide) h.c2))))))
  · exact o (by decide) (o (by decide) (o (by decide) (s (o (by decide) (o (by decide) (o (by decide) h.c3))))))
  · exact o (by decide) (o (by decide) (s (o (by decide) (o (by decide) (o (by decide) (o (by decide) h.c4))))))
  · exact o (by decide) (s (o (by decide) (o (by decide) (o (by decide) (o (by decide) (o (by decide) h.c5))))))
  · exact s (o (by decide) (o (by decide) (o (by decide) (o (by decide) (o (by decide) (o (by decide) h.c6))))))
theorem MU.set1 {w : World} {B0 : Nat} {a : Addr} {u : Value} {ws : List Int} (h : MU w B0 u ws) (hB : a.block < B0) (x : Value) : MU (w.setCell a x) B0 u ws := by
  rcases h with h | ⟨g, c, cur, h0, h1, h2, h3, h4, h5⟩
  · exact .inl h
  · refine .inr ⟨g, c, cur, h0, h1, h2, h3, ?_, h5⟩
    rw [Below.heap_setCell _ _ _ _ (by omega)]
    exact h4
theorem put7_mu {w : World} {B B0 : Nat} {u : Value} {ws : List Int} (h : MU w B0 u ws) (hB : B < B0) (v0 v1 v2 v3 v4 v5 v6 : Value) : MU (put7 w B v0 v1 v2 v3 v4 v5 v6) B0 u ws :=
  ((((((h.set1 hB _).set1 hB _).set1 hB _).set1 hB _).set1 hB _).set1 hB _).set1 hB _
theorem put7_below {w0 w : World} {n B : Nat} (h : Below n w0 w) (hn : n ≤ B) (v0 v1 v2 v3 v4 v5 v6 : Value) : Below n w0 (put7 w B v0 v1 v2 v3 v4 v5 v6) :=
  ((((((h.setCell hn _).setCell hn _).setCell hn _).setCell hn _).setCell hn _).setCell hn _).setCell hn _
theorem put7_far {w : World} {B A i : Nat} {a : Value} (h : w.cell? ⟨A, i, none⟩ = some a) (hn : B ≠ A) (v0 v1 v2 v3 v4 v5 v6 : Value) : (put7 w B v0 v1 v2 v3 v4 v5 v6).cell? ⟨A, i, none⟩ = some a := by
  have o : ∀ {w : World} {j : Nat} {x : Value}, w.cell? ⟨A, i, none⟩ = some a → (w.setCell ⟨B, j, none⟩ x).cell? ⟨A, i, none⟩ = some a := fun hc => (World.cell?_setCell_other _ _ _ _ (fun e => hn (by injection e))).trans hc
  exact o (o (o (o (o (o (o h))))))
theorem put7_two {w : World} {B A D : Nat} {a0 a1 a2 a3 a4 a5 a6 d0 d1 d2 d3 d4 d5 d6 : Value} (h : (w).cell? ⟨A, 0, none⟩ = some a0 ∧ (w).cell? ⟨A, 1, none⟩ = some a1 ∧ (w).cell? ⟨A, 2, none⟩ = some a2 ∧ (w).cell? ⟨A, 3, none⟩ = some a3 ∧ (w).cell? ⟨A, 4, none⟩ = some a4 ∧ (w).cell? ⟨A, 5, none⟩ = some a5 ∧ (w).cell? ⟨A, 6, none⟩ = some a6 ∧ (w).cell? ⟨D, 0, none⟩ = some d0 ∧ (w).cell? ⟨D, 1, none⟩ = some d1 ∧ (w).cell? ⟨D, 2, none⟩ = some d2 ∧ (w).cell? ⟨D, 3, none⟩ = some d3 ∧ (w).cell? ⟨D, 4, none⟩ = some d4 ∧ (w).cell? ⟨D, 5, none⟩ = some d5 ∧ (w).cell? ⟨D, 6, none⟩ = some d6) (n1 : B ≠ A) (n2 : B ≠ D) (v0 v1 v2 v3 v4 v5 v6 : Value) :
    (put7 w B v0 v1 v2 v3 v4 v5 v6).cell? ⟨A, 0, none⟩ = some a0 ∧ (put7 w B v0 v1 v2 v3 v4 v5 v6).cell? ⟨A, 1, none⟩ = some a1 ∧ (put7 w B v0 v1 v2 v3 v4 v5 v6).cell? ⟨A, 2, none⟩ = some a2 ∧ (put7 w B v0 v1 v2 v3 v4 v5 v6).cell? ⟨A, 3, none⟩ = some a3 ∧ (put7 w B v0 v1 v2 v3 v4 v5 v6).cell? ⟨A, 4, none⟩ = some a4 ∧ (put7 w B v0 v1 v2 v3 v4 v5 v6).cell? ⟨A, 5, none⟩ = some a5 ∧ (put7 w B v0 v1 v2 v3 v4 v5 v6).cell? ⟨A, 6, none⟩ = some a6 ∧ (put7 w B v0 v1 v2 v3 v4 v5 v6).cell? ⟨D, 0, none⟩ = some d0 ∧ (put7 w B v0 v1 v2 v3 v4 v5 v6).cell? ⟨D, 1, none⟩ = some d1 ∧ (put7 w B v0 v1 v2 v3 v4 v5 v6).cell? ⟨D, 2, none⟩ = some d2 ∧ (put7 w B v0 v1 v2 v3 v4 v5 v6).cell? ⟨D, 3, none⟩ = some d3 ∧ (put7 w B v0 v1 v2 v3 v4 v5 v6).cell? ⟨D, 4, none⟩ = some d4 ∧ (put7 w B v0 v1 v2 v3 v4 v5 v6).cell? ⟨D, 5, none⟩ = some d5 ∧ (put7 w B v0 v1 v2 v3 v4 v5 v6).cell? ⟨D, 6, none⟩ = some d6 := by
  obtain ⟨ha0, ha1, ha2, ha3, ha4, ha5, ha6, hd0, hd1, hd2, hd3, hd4, hd5, hd6⟩ := h
  exact ⟨put7_far ha0 n1 _ _ _ _ _ _ _, put7_far ha1 n1 _ _ _ _ _ _ _, put7_far ha2 n1 _ _ _ _ _ _ _, put7_far ha3 n1 _ _ _ _ _ _ _, put7_far ha4 n1 _ _ _ _ _ _ _, put7_far ha5 n1 _ _ _ _ _ _ _, put7_far ha6 n1 _ _ _ _ _ _ _, put7_far hd0 n2 _ _ _ _ _ _ _, put7_far hd1 n2 _ _ _ _ _ _ _, put7_far hd2 n2 _ _ _ _ _ _ _, put7_far hd3 n2 _ _ _ _ _ _ _, put7_far hd4 n2 _ _ _ _ _ _ _, put7_far hd5 n2 _ _ _ _ _ _ _, put7_far hd6 n2 _ _ _ _ _ _ _⟩
/-- A box of seven cells that may be written. -/
structure Bw7 (w : World) (B : Nat) (a0 a1 a2 a3 a4 a5 a6 : Value) : Prop where
  b : Bx7 w B a0 a1 a2 a3 a4 a5 a6
  f0 : w.frozen? ⟨B, 0, none⟩ = false
  f1 : w.frozen? ⟨B, 1, none⟩ = false
  f2 : w.frozen? ⟨B, 2, none⟩ = false
  f3 : w.frozen? ⟨B, 3, none⟩ = false
  f4 : w.frozen? ⟨B, 4, none⟩ = false
  f5 : w.frozen? ⟨B, 5, none⟩ = false
  f6 : w.frozen? ⟨B, 6, none⟩ = false
theorem Bw7.new (X : World) (a0 a1 a2 a3 a4 a5 a6 : Value) (T : TypeId) {B : Nat} (e : B = X.heap.size) : Bw7 (X.alloc (.cells #[a0, a1, a2, a3, a4, a5, a6] T)) B a0 a1 a2 a3 a4 a5 a6 := by
  refine ⟨Bx7.new X _ _ _ _ _ _ _ T e, ?_, ?_, ?_, ?_, ?_, ?_, ?_⟩
  all_goals (subst e; simp)
theorem Bw7.keep {w w' : World} {B : Nat} {a0 a1 a2 a3 a4 a5 a6 : Value} (h : Bw7 w B a0 a1 a2 a3 a4 a5 a6) (hb : Below w.heap.size w w') : Bw7 w' B a0 a1 a2 a3 a4 a5 a6 := by
  have hl := World.block_lt_of_cell? _ _ h.b.c0
  have k : ∀ i, w'.frozen? ⟨B, i, none⟩ = w.frozen? ⟨B, i, none⟩ := fun i => World.frozen?_of_block (a := ⟨B, i, none⟩) (hb.block B hl)
  exact ⟨h.b.keep hb, (k 0).trans h.f0, (k 1).trans h.f1, (k 2).trans h.f2, (k 3).trans h.f3, (k 4).trans h.f4, (k 5).trans h.f5, (k 6).trans h.f6⟩
end
end Go.Proofs.YtpebnofjcodikaaGreatDoor
