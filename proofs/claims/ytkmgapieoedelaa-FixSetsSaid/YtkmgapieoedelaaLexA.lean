/- The mathematics of tokens: what the bytes of a text are as tokens, and the text of tokens; nothing of the program is named here. -/
namespace Go.Proofs.LexMath

abbrev Bs := List UInt8
def iv (c : UInt8) : Int := c.toNat
def low (r : Int) : Bool := decide (97 ≤ r) && decide (r ≤ 122)
def upp (r : Int) : Bool := decide (65 ≤ r) && decide (r ≤ 90)
def ltr (r : Int) : Bool := low r || upp r
def dgt (r : Int) : Bool := decide (48 ≤ r) && decide (r ≤ 57)
def tl (r : Int) : Bool := ltr r || dgt r || (r == 95 || r == 39)
def opr (r : Int) : Bool := r == 33 || r == 36 || r == 37 || r == 38 || r == 42 || r == 43 || r == 45 || r == 47 || r == 58 || r == 60 || r == 61 || r == 62 || r == 63 || r == 64 || r == 94 || r == 124
def pln (r : Int) : Bool := decide (32 ≤ r) && decide (r ≤ 126)

/-- How many bytes at the head are of a class. -/
def run (p : Int → Bool) (l : Bs) : Nat := (l.takeWhile fun c => p (iv c)).length
theorem run_nil (p : Int → Bool) : run p [] = 0 := rfl
theorem run_yes (p : Int → Bool) (c : UInt8) (l : Bs) (h : p (iv c) = true) : run p (c :: l) = run p l + 1 := by simp [run, h]
theorem run_no (p : Int → Bool) (c : UInt8) (l : Bs) (h : p (iv c) = false) : run p (c :: l) = 0 := by simp [run, h]
def keys : List Bs := [[108, 101, 116], [114, 101, 99], [105, 110], [102, 117, 110], [105, 102], [116, 104, 101, 110], [101, 108, 115, 101], [109, 97, 116, 99, 104], [119, 105, 116, 104], [101, 110, 100], [114, 97, 105, 115, 101], [116, 114, 121], [111, 112, 101, 110], [116, 121, 112, 101], [111, 102], [105, 110, 102, 105, 120, 108], [105, 110, 102, 105, 120, 114], [105, 110, 102, 105, 120], [45, 62], [61], [124], [40], [41], [95], [59, 59]]
def key (t : Bs) : Bool := keys.contains t

/-- The byte for which the head of a text stands in a string, and how many bytes that is. -/
def hexv (r : Int) : Int := if 48 ≤ r ∧ r ≤ 57 then r - 48 else if 97 ≤ r ∧ r ≤ 102 then r - 87 else -1
def chr : Bs → Option (UInt8 × Nat)
  | [] => none
  | c :: r =>
    if iv c = 92 then
      match r with
      | [] => none
      | d :: r' =>
        if iv d = 34 ∨ iv d = 92 then some (d, 2)
        else if iv d = 110 then some (10, 2)
        else if iv d = 120 then
          match r' with
          | x :: y :: _ => if 0 ≤ hexv (iv x) ∧ 0 ≤ hexv (iv y) then some (UInt8.ofNat (16 * hexv (iv x) + hexv (iv y)).toNat, 4) else none
          | _ => none
        else none
    else if pln (iv c) then some (c, 1) else none
/-- A string that ends behind its closing sign: its bytes, and how many it takes. -/
def strF : Nat → Bs → Option (Bs × Nat)
  | 0, _ => none
  | _ + 1, [] => none
  | f + 1, c :: r =>
    if iv c = 34 then some ([], 1)
    else match chr (c :: r) with
      | none => none
      | some (b, n) => (strF f ((c :: r).drop n)).map fun x => (b :: x.1, n + x.2)
def str (l : Bs) : Option (Bs × Nat) := strF l.length l
def qbyte (c : UInt8) : Bs :=
  if iv c = 34 ∨ iv c = 92 then [92, c] else if iv c = 10 then [92, 110] else if pln (iv c) then [c]
  else [92, 120, hexd (iv c / 16), hexd (iv c % 16)]
where hexd (n : Int) : UInt8 := UInt8.ofNat (if n < 10 then 48 + n else 87 + n).toNat
def qbody (s : Bs) : Bs := s.flatMap qbyte
def quote (s : Bs) : Bs := 34 :: (qbody s ++ [34])
end Go.Proofs.LexMath
