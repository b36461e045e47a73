/- Layer 4: tokens of bytes: plain lists. -/
namespace Go.Proofs.YtcjomeghcihecaaDoor
set_option linter.unusedVariables false
set_option linter.unusedSimpArgs false
abbrev Bs := List UInt8
def isL (c : UInt8) : Bool := (decide (97 ≤ c.toNat) && decide (c.toNat ≤ 122)) || (decide (65 ≤ c.toNat) && decide (c.toNat ≤ 90)) || decide (c.toNat = 95)
def isD (c : UInt8) : Bool := decide (48 ≤ c.toNat) && decide (c.toNat ≤ 57)
def isLD (c : UInt8) : Bool := isL c || isD c
def digN (l : Bs) : Nat := (l.takeWhile isD).length
def namN (l : Bs) : Nat := (l.takeWhile isLD).length
/-- The words of the language. -/
def wordsB : List Bs := [[97, 110, 100], [97, 115], [97, 115, 115, 101, 114, 116], [98, 114, 101, 97, 107], [99, 108, 97, 115, 115], [99, 111, 110, 116, 105, 110, 117, 101], [100, 101, 102], [100, 101, 108], [101, 108, 105, 102], [101, 108, 115, 101], [101, 120, 99, 101, 112, 116], [102, 105, 110, 97, 108, 108, 121], [102, 111, 114], [103, 108, 111, 98, 97, 108], [105, 102], [105, 110], [105, 115], [108, 97, 109, 98, 100, 97], [110, 111, 110, 108, 111, 99, 97, 108], [110, 111, 116], [111, 114], [112, 97, 115, 115], [114, 97, 105, 115, 101], [114, 101, 116, 117, 114, 110], [116, 114, 121], [119, 104, 105, 108, 101], [119, 105, 116, 104], [121, 105, 101, 108, 100], [84, 114, 117, 101], [70, 97, 108, 115, 101], [78, 111, 110, 101]]
/-- The symbols, the longer ones first. -/
def symsB : List Bs := [[47, 47, 61], [42, 42, 61], [47, 47], [42, 42], [61, 61], [33, 61], [60, 61], [62, 61], [43, 61], [45, 61], [42, 61], [47, 61], [37, 61], [43], [45], [42], [47], [37], [61], [60], [62], [40], [41], [91], [93], [123], [125], [44], [58], [46]]
/-- Behind the fraction of a number. -/
def frE (l : Bs) : Nat := if l[digN l]? = some 46 ∧ 0 < digN (l.drop (digN l + 1)) then digN l + 1 + digN (l.drop (digN l + 1)) else digN l
/-- Behind a sign that may stand there. -/
def sgE (l : Bs) (k : Nat) : Nat := if l[k]? = some 43 ∨ l[k]? = some 45 then k + 1 else k
/-- Behind the exponent. -/
def exE (l : Bs) : Nat := if l[frE l]? = some 101 ∧ 0 < digN (l.drop (sgE l (frE l + 1))) then sgE l (frE l + 1) + digN (l.drop (sgE l (frE l + 1))) else frE l
def numK (l : Bs) : Int := if exE l = digN l then 5 else 6
/-- Does something stand behind a number that may not? -/
def badC (o : Option UInt8) : Bool := match o with
  | none => false
  | some c => isL c || decide (c.toNat = 46)
/-- A token: its kind, its text, how many bytes. -/
abbrev Pc := Int × Bs × Nat
def numBad (l : Bs) : Bool := decide (540 < exE l) || (decide (numK l = 5) && decide (1 < exE l) && decide (l[0]? = some 48)) || badC l[exE l]?
def numD (l : Bs) : Option Pc := if numBad l then none else some (numK l, l.take (exE l), exE l)
/-- What a digit to the base 16 says. -/
def hexV (c : UInt8) : Option Nat := if isD c then some (c.toNat - 48) else if 97 ≤ c.toNat ∧ c.toNat ≤ 102 then some (c.toNat - 87) else if 65 ≤ c.toNat ∧ c.toNat ≤ 70 then some (c.toNat - 55) else none
/-- What a letter behind a backslash stands for. -/
def stC (c : UInt8) : Option UInt8 := if c.toNat = 110 then some 10 else if c.toNat = 116 then some 9 else if c.toNat = 92 ∨ c.toNat = 39 ∨ c.toNat = 34 then some c else none
inductive StM
  | plain
  | esc
  | hex
  | hex2 (h : Nat)
/-- A string from a place on: its bytes, and how many bytes up to the quote. -/
def strS (q : UInt8) : StM → Bs → Option (Bs × Nat)
  | .plain, [] => none
  | .plain, c :: r => if c = q then some ([], 1) else if c.toNat < 32 then none else if c.toNat = 92 then (strS q .esc r).map fun p => (p.1, p.2 + 1) else (strS q .plain r).map fun p => (c :: p.1, p.2 + 1)
  | .esc, [] => none
  | .esc, c :: r => if c.toNat = 120 then (strS q .hex r).map fun p => (p.1, p.2 + 1) else match stC c with
    | none => none
    | some b => (strS q .plain r).map fun p => (b :: p.1, p.2 + 1)
  | .hex, [] => none
  | .hex, c :: r => match hexV c with
    | none => none
    | some h => (strS q (.hex2 h) r).map fun p => (p.1, p.2 + 1)
  | .hex2 _, [] => none
  | .hex2 h, c :: r => match hexV c with
    | none => none
    | some k => (strS q .plain r).map fun p => (UInt8.ofNat (16 * h + k) :: p.1, p.2 + 1)
def strD (l : Bs) : Option Pc := match l with
  | [] => none
  | q :: r => (strS q .plain r).map fun p => (7, p.1, p.2 + 1)
def symF (l : Bs) : Option Bs := symsB.find? fun s => s.isPrefixOf l
def symD (l : Bs) : Option Pc := (symF l).map fun s => (9, s, s.length)
def namK (t : Bs) : Int := if wordsB.contains t then 8 else 4
def namD (l : Bs) : Pc := (namK (l.take (namN l)), l.take (namN l), namN l)
/-- The token at the head of a list. -/
def tokD (l : Bs) : Option Pc := match l with
  | [] => none
  | c :: _ => if isL c then some (namD l) else if isD c then numD l else if c.toNat = 39 ∨ c.toNat = 34 then strD l else symD l
structure Tk where
  kind : Int
  line : Int
  text : Bs
  deriving DecidableEq
def isOpenB (t : Bs) : Bool := decide (t = [40] ∨ t = [91] ∨ t = [123])
def isShutB (t : Bs) : Bool := decide (t = [41] ∨ t = [93] ∨ t = [125])
/-- The depth behind a token. -/
def depD (d : Int) (k : Int) (t : Bs) : Int := if k = 9 then (if isOpenB t then d + 1 else if isShutB t then max 0 (d - 1) else d) else d
/-- Behind blanks and a comment of a row. -/
def skipR (l : Bs) : Bs := if (l.dropWhile (· == 32)).head? = some 35 then [] else l.dropWhile (· == 32)
theorem dropWhile_len (p : UInt8 → Bool) : ∀ l : Bs, (l.dropWhile p).length ≤ l.length
  | [] => Nat.le_refl _
  | c :: r => by
    rw [List.dropWhile_cons]
    split
    · exact Nat.le_succ_of_le (dropWhile_len p r)
    · exact Nat.le_refl _
theorem skipR_len (l : Bs) : (skipR l).length ≤ l.length := by
  unfold skipR
  split
  · exact Nat.zero_le _
  · exact dropWhile_len _ _
/-- The tokens of a row from a place that is no blank. -/
def toksD (ln d : Int) (l : Bs) : Option (List Tk × Int) := match l with
  | [] => some ([], d)
  | c :: r => match tokD (c :: r) with
    | none => none
    | some p => match toksD ln (depD d p.1 p.2.1) (skipR (r.drop (p.2.2 - 1))) with
      | none => none
      | some q => some (⟨p.1, ln, p.2.1⟩ :: q.1, q.2)
termination_by l.length
decreasing_by
  have h := skipR_len (r.drop (p.2.2 - 1))
  rw [List.length_drop] at h
  simp only [List.length_cons]
  omega
/-- The indentations that are closed, the last one first. -/
def popD (n : Int) : List Int → List Int
  | [] => []
  | t :: r => if n < t then popD n r else t :: r
def outsD (k : Nat) (ln : Int) : List Tk := List.replicate k ⟨3, ln, []⟩
/-- The indentation of a row: tokens, and what is open then. -/
def indD (ln n : Int) (op : List Int) : Option (List Tk × List Int) :=
  if op.headD 0 < n then some ([⟨2, ln, []⟩], n :: op)
  else if (popD n op).headD 0 = n then some (outsD (op.length - (popD n op).length) ln, popD n op) else none
structure LxS where
  d : Int
  op : List Int
  deriving DecidableEq
def blkN (l : Bs) : Nat := (l.takeWhile (· == 32)).length
def endD (ln d : Int) : List Tk := if d = 0 then [⟨1, ln, []⟩] else []
/-- A row: an error's number, or tokens and what is then. -/
def rowD (ln : Int) (s : LxS) (row : Bs) : Except Int (List Tk × LxS) :=
  if skipR row = [] then .ok ([], s)
  else match (if s.d = 0 then indD ln (blkN row) s.op else some ([], s.op)) with
    | none => .error 21
    | some q => match toksD ln s.d (skipR row) with
      | none => .error 20
      | some p => .ok (q.1 ++ p.1 ++ endD ln p.2, ⟨p.2, q.2⟩)
def rowsD (ln : Int) (s : LxS) : List Bs → Except (Int × Int) (List Tk × LxS)
  | [] => .ok ([], s)
  | row :: rs => match rowD ln s row with
    | .error e => .error (ln, e)
    | .ok p => match rowsD (ln + 1) p.2 rs with
      | .error e => .error e
      | .ok q => .ok (p.1 ++ q.1, q.2)
def splitB : Bs → List Bs
  | [] => [[]]
  | c :: r => if c = 10 then [] :: splitB r else match splitB r with
    | [] => [[c]]
    | h :: t => (c :: h) :: t
/-- The line, the error's number. -/
def lexD (src : Bs) : Except (Int × Int) (List Tk) :=
  if 20000 < src.length then .error (0, 24)
  else match rowsD 1 ⟨0, [0]⟩ (splitB src) with
    | .error e => .error e
    | .ok p => .ok (p.1 ++ outsD (p.2.op.length - 1) (splitB src).length ++ [⟨0, (splitB src).length, []⟩])
end Go.Proofs.YtcjomeghcihecaaDoor
