/-
  Plain functions on lists of bytes for layer 1 (token): what both the program and the reference compute. No Go here.
-/
namespace Go.Proofs.Ytgpcaofikmdpjaa

def isLet (c : UInt8) : Bool := (decide (97 ≤ c.toNat) && decide (c.toNat ≤ 122)) || (decide (65 ≤ c.toNat) && decide (c.toNat ≤ 90))
def isDig (c : UInt8) : Bool := decide (48 ≤ c.toNat) && decide (c.toNat ≤ 57)
def isBlk (c : UInt8) : Bool := c.toNat == 32 || c.toNat == 9 || c.toNat == 13 || c.toNat == 10
def isNam (c : UInt8) : Bool := isLet c || isDig c || c.toNat == 95
def isStr (c : UInt8) : Bool := decide (32 ≤ c.toNat) && decide (c.toNat ≤ 126) && c.toNat != 34

/-- how many bytes of one sort a list begins with -/
def pre (p : UInt8 → Bool) : List UInt8 → Nat
  | [] => 0
  | c :: r => if p c then pre p r + 1 else 0

def runS (k most : Nat) (p : UInt8 → Bool) (l : List UInt8) : Nat × Nat × Nat :=
  if most < pre p l then (0, 0, 3) else (k, pre p l, 0)

def strS (r : List UInt8) : Nat × Nat × Nat :=
  match r.drop (pre isStr r) with
  | [] => (0, 0, 2)
  | c :: _ => if c.toNat = 34 then (if 60 < pre isStr r then (0, 0, 3) else (3, pre isStr r + 2, 0)) else (0, 0, 2)

def two (l : List UInt8) : Bool :=
  l.take 2 == [45, 62] || l.take 2 == [60, 61] || l.take 2 == [62, 61] || l.take 2 == [61, 61] || l.take 2 == [33, 61]

def signBytes : List UInt8 := [123, 125, 40, 41, 91, 93, 44, 59, 58, 61, 43, 45, 42, 60, 62, 33, 38, 124, 46, 63]

def signS (l : List UInt8) : Nat × Nat × Nat :=
  if two l then (4, 2, 0) else if signBytes.contains (l.headD 0) then (4, 1, 0) else (0, 0, 2)

/-- kind, size, error of the token with which a text begins -/
def scanS : List UInt8 → Nat × Nat × Nat
  | [] => (0, 0, 2)
  | c :: r => if isLet c then runS 1 20 isNam (c :: r) else if isDig c then runS 2 9 isDig (c :: r) else if c.toNat = 34 then strS r else signS (c :: r)

def skipS : Bool → List UInt8 → Nat → List UInt8 × Nat
  | _, [], ln => ([], ln)
  | com, c :: r, ln =>
    if c.toNat = 10 then skipS false r (ln + 1)
    else if c.toNat = 35 then skipS true r ln
    else if !com && !isBlk c then (c :: r, ln)
    else skipS com r ln

/-- a token: kind, text, line -/
structure Tok where
  kind : Int
  text : List UInt8
  line : Int
deriving DecidableEq

def textS (k n : Nat) (r : List UInt8) : List UInt8 := if k = 3 then (r.take (n - 1)).drop 1 else r.take n

def run : Nat → List Tok → List UInt8 → Nat → List Tok × Nat × Nat
  | 0, acc, _, _ => (acc, 0, 0)
  | f + 1, acc, l, ln =>
    match skipS false l ln with
    | ([], _) => (acc, 0, 0)
    | (c :: r, ln') =>
      match scanS (c :: r) with
      | (k, n, e) =>
        if e = 0 then
          if acc.length = 4000 then ([], ln', 3)
          else run f (acc ++ [⟨k, textS k n (c :: r), ln'⟩]) ((c :: r).drop n) ln'
        else ([], ln', e)

def toksS (l : List UInt8) : List Tok × Nat × Nat := if 20000 < l.length then ([], 0, 3) else run (l.length + 1) [] l 1

end Go.Proofs.Ytgpcaofikmdpjaa
