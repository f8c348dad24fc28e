/- Texts of this seat, one behind the other: Make, LxMath, LxDigs, LxLexA, LxLexB, LxLexD. -/
import Derived.Test.YtncifeeinogcnaaDoorKn03
import Derived.RowKit
import Derived.IntWalk
import Derived.Laws.BytesArg
/- tree.Make. -/
set_option maxRecDepth 100000
namespace Go.Proofs.YtncifeeinogcnaaDoor
open Go.RowKit Go.Proofs.TreeMath
def Nd.val (x : Nd) : Value := .agg #[.int .i64 x.kind, .string x.text, .int .i64 x.num, .int .i64 x.kids]
def makeN (x : Nd) (Ls : List (List Nd)) : List Nd := { x with kids := Ls.length } :: Ls.flatten
theorem node_new (w : World) (x : Nd) : NodesAt (w.alloc (.cells #[.int .i64 x.kind, .string x.text, .int .i64 x.num, .int .i64 x.kids] 42)) (.slice (some ⟨w.heap.size, 0, none⟩) 1 1) [x] := by
  refine ⟨rfl, _, _, rfl, Nat.le_refl _, by unfold maxLen; omega, fun _ => ⟨_, _, rfl, by simp, ?_⟩⟩
  intro j u hj
  have h1 : (w.alloc (.cells #[.int .i64 x.kind, .string x.text, .int .i64 x.num, .int .i64 x.kids] 42)).heap[w.heap.size]? = some (.cells #[.int .i64 x.kind, .string x.text, .int .i64 x.num, .int .i64 x.kids] 42 (0, 0)) := by
    show (w.heap.push _)[w.heap.size]? = _
    simp
  unfold World.cell?
  simp only [h1]
  have hj' : [Value.int .i64 x.kind, .string x.text, .int .i64 x.num, .int .i64 x.kids][j]? = some u := by simpa [nodeCells, Nd.cells] using hj
  simpa using hj'
set_option maxHeartbeats 1000000 in
theorem make_zero (k m s : Int) (t : ByteArray) (p : Option Addr) (c : Nat) (w : World) :
    Calls Tryd.prog 46 #[.agg #[.int .i64 k, .string t, .int .i64 m, .int .i64 s], .slice p 0 c] w (NRet w [⟨k, t, m, 0⟩]) := by
  rcases p with _ | a <;>
  · go_enter Tryd.func46, Tryd.ntmps46
    go_wp2_with fail
    refine (join_any (w.heap.size + 1 + 1) 0 1 [[⟨k, t, m, 0⟩]] _ (by simp) (by
      have h := lists_one ((w.alloc (.cells #[.int .i64 k, .string t, .int .i64 m, .int .i64 0] 42)).alloc (.cells #[.int .i64 k, .string t, .int .i64 m, .int .i64 0] 42)) (.slice (some ⟨w.heap.size + 1, 0, none⟩) 1 1) 36 [⟨k, t, m, 0⟩] (by
        have := node_new (w.alloc (.cells #[.int .i64 k, .string t, .int .i64 m, .int .i64 0] 42)) ⟨k, t, m, 0⟩
        simpa using this)
      show Lists _ _ _ _
      simpa using h) (by simp) (by simp)).mono ?_
    rintro e w1 ⟨v', rfl, hv, hb1⟩
    have HV := Lib.hid hv
    clear hv
    go_wp2_with fail
    go_ret
    refine ⟨_, rfl, ?_, ((((Below.refl _ _).alloc (Nat.le_refl _) _).alloc (by simp) _).alloc (by simp; omega) _).trans (hb1.mono (by simp; omega))⟩
    have h9 := HV.out
    simp only [List.flatten_cons, List.flatten_nil, List.append_nil] at h9
    exact h9
theorem lists_owns {w : World} {base n : Nat} {v : Value} {vs : List Value} {Ls : List (List Nd)} (h : w.ownsRow base 36 1 v n vs) (hn : n = Ls.length) (hp : 0 < n) (hL : ∀ i, i < Ls.length → NodesAt w (vs.getD i default) (Ls.getD i [])) :
    ∃ b c, v = .slice (some ⟨b, 0, none⟩) Ls.length c ∧ b < w.heap.size ∧ Lists w b 0 Ls := by
  obtain ⟨hl, p, c, rfl, _, _, h4⟩ := SliceAt.of_owns h
  subst hn
  rcases h.2 with ⟨_, h0⟩ | ⟨g, cap, cur, hv, _, _, _⟩
  · omega
  · simp only [Value.slice.injEq] at hv
    obtain ⟨rfl, _, rfl⟩ := hv
    obtain ⟨b, off, hh, hb, hc⟩ := h4 (by omega)
    simp only [Option.some.injEq, Addr.mk.injEq] at hh
    obtain ⟨rfl, rfl, _⟩ := hh
    refine ⟨g, c, rfl, hb, fun i hi => ⟨vs.getD i default, hc i _ ?_, hL i hi⟩⟩
    rw [List.getD_eq_getElem?_getD, List.getElem?_eq_getElem (by omega)]
    rfl
theorem infoSlice : ∃ i, Tryd.prog.info? 36 = some i ∧ i.zero = some (.slice none 0 0) ∧ i.size = 1 ∧ i.bytes = 24 := info_of' (by kernel_rfl)
theorem vs_one {w : World} {vs : List Value} {Ls : List (List Nd)} (hl : vs.length = Ls.length) (h : ∀ i, i < Ls.length → NodesAt w (vs.getD i default) (Ls.getD i [])) : ∀ u ∈ vs, u.oneCell' = true := by
  intro u hu
  obtain ⟨i, hi, rfl⟩ := List.getElem_of_mem hu
  have := h i (by omega)
  rw [List.getD_eq_getElem?_getD, List.getElem?_eq_getElem hi] at this
  obtain ⟨_, p, c, hv, _⟩ := this
  simp only [Option.getD_some] at hv
  rw [hv]
  rfl
theorem owns_lit (w : World) (base : Nat) (x : Value) (t : TypeId) (h : base ≤ w.heap.size) : (w.alloc (.cells #[x] t)).ownsRow base t 1 (.slice (some ⟨w.heap.size, 0, none⟩) 1 1) 1 [x] := by
  refine ⟨rfl, .inr ⟨w.heap.size, 1, #[x], rfl, h, ?_, Nat.le_refl _, by unfold maxLen; omega, rfl, rfl⟩⟩
  show (w.heap.push _)[w.heap.size]? = _
  simp
theorem below3 (w : World) (a b c : Obj) : Below w.heap.size w (((w.alloc a).alloc b).alloc c) := (((Below.refl _ _).alloc (Nat.le_refl _) _).alloc (by simp) _).alloc (by simp; omega) _
theorem below2 (w : World) (a b : Obj) : Below w.heap.size w ((w.alloc a).alloc b) := ((Below.refl _ _).alloc (Nat.le_refl _) _).alloc (by simp) _
set_option maxHeartbeats 2000000 in
theorem make_some (k m s : Int) (t : ByteArray) (b off n c : Nat) (vs : List Value) (Ls : List (List Nd)) (w : World) (hb : b < w.heap.size) (hc : Hid (CellsIn w b off vs)) (hl : Hid (vs.length = n)) (hL : Hid (Ls.length = n)) (hn0 : 0 < n) (hn : n ≤ 4000) (hf : Hid (Ls.flatten.length ≤ 900000)) (hv : Hid (∀ i, i < Ls.length → NodesAt w (vs.getD i default) (Ls.getD i []))) :
    Calls Tryd.prog 46 #[.agg #[.int .i64 k, .string t, .int .i64 m, .int .i64 s], .slice (some ⟨b, off, none⟩) n c] w (NRet w (makeN ⟨k, t, m, 0⟩ Ls)) := by
  obtain ⟨i0, hi, hz0, hz1, hz2⟩ := infoSlice
  have HI := Lib.hid (And.intro hi (And.intro hz0 (And.intro hz1 hz2)))
  clear hi hz0 hz1 hz2
  go_enter Tryd.func46, Tryd.ntmps46
  go_wp2_with ((at_builtin; refine wpList_append_own _ rfl _ _ 31 rfl w.heap.size 36 i0 (.slice none 0 0) 1 24 Tryd.underlying31 HI.out.1 HI.out.2.1 HI.out.2.2.1 HI.out.2.2.2 rfl (by decide) (.slice (some ⟨w.heap.size + 1 + 1, 0, none⟩) 1 1) 1 [.slice (some ⟨w.heap.size + 1, 0, none⟩) 1 1] rfl ?q1 ⟨b, off, none⟩ n c vs rfl (by rw [hl.out]; omega) ?q2 (vs_one (by rw [hl.out, hL.out]) hv.out) (by unfold maxLen; omega) (by omega) (by simp; omega) ?_; (case q1 => have := owns_lit ((w.alloc (.cells #[.int .i64 k, .string t, .int .i64 m, .int .i64 n] 42)).alloc (.cells #[.int .i64 k, .string t, .int .i64 m, .int .i64 n] 42)) w.heap.size (.slice (some ⟨w.heap.size + 1, 0, none⟩) 1 1) 36 (by simp; omega); simpa using this); (case q2 => exact (hc.out.kept ((below3 w _ _ _).block b hb)).at); intro v' w3 hown' hgrow hnil; have HO3 := Lib.hid hown'; have HG := Lib.hid hgrow; clear hown' hgrow hnil))
  have hnode := node_new (w.alloc (.cells #[.int .i64 k, .string t, .int .i64 m, .int .i64 n] 42)) ⟨k, t, m, n⟩
  have hbel3 : Below (w.heap.size + 1 + 1) ((w.alloc (.cells #[.int .i64 k, .string t, .int .i64 m, .int .i64 n] 42)).alloc (.cells #[.int .i64 k, .string t, .int .i64 m, .int .i64 n] 42)) w3 :=
    (((Below.refl _ _).alloc (by simp) _)).grown HG.out (by simp) fun q hq => by
      have hq' : some (w.heap.size + 1 + 1) = some q := hq
      simp at hq'
      omega
  have hbelw : Below w.heap.size w w3 := (below2 w _ _).trans (hbel3.mono (by omega))
  obtain ⟨g, c3, hv3, hg3, hL3⟩ := lists_owns (Ls := [⟨k, t, m, n⟩] :: Ls) HO3.out (by rw [List.length_cons, hL.out]; omega) (by omega) (fun i hi => by
    cases i with
    | zero =>
      refine NodesAt.below ?_ (show Below ((w.alloc (.cells #[.int .i64 k, .string t, .int .i64 m, .int .i64 n] 42)).alloc (.cells #[.int .i64 k, .string t, .int .i64 m, .int .i64 n] 42)).heap.size _ w3 by simpa using hbel3)
      simpa using hnode
    | succ i =>
      have := (hv.out i (by simpa using hi)).below hbelw
      simpa using this)
  have HL3 := Lib.hid hL3
  clear hL3 hnode
  subst hv3
  go_wp2_with fail
  refine (join_any g 0 c3 ([⟨k, t, m, n⟩] :: Ls) w3 hg3 HL3.out (by simp; have := hf.out; simp at this; omega) (by simp; rw [hL.out]; omega)).mono ?_
  rintro e w4 ⟨v', rfl, hv', hb4⟩
  have HV := Lib.hid hv'
  clear hv'
  go_wp2_with fail
  go_ret
  refine ⟨_, rfl, ?_, hbelw.trans (hb4.mono hbelw.size)⟩
  have h9 := HV.out
  unfold makeN
  rw [hL.out]
  simp only [List.flatten_cons, List.singleton_append] at h9
  exact h9
def sumLen (Ls : List (List Nd)) : Prop := Ls.length ≤ 4000 ∧ Ls.flatten.length ≤ 900000
theorem make_any (x : Nd) (v : Value) (Ls : List (List Nd)) (w : World) (h : ListsAt w v Ls) (hs : sumLen Ls) : Calls Tryd.prog 46 #[x.val, v] w (NRet w (makeN x Ls)) := by
  obtain ⟨k, t, m, s⟩ := x
  obtain ⟨vs, ⟨hl, p, c, rfl, _, _, h4⟩, hv⟩ := h
  by_cases h0 : Ls.length = 0
  · obtain rfl : Ls = [] := List.eq_nil_of_length_eq_zero h0
    exact make_zero k m s t p c w
  · obtain ⟨b, off, rfl, hb, hc⟩ := h4 h0
    exact make_some k m s t b off Ls.length c vs Ls w hb hc (Lib.hid (by simpa using hl)) rfl (by omega) hs.1 hs.2 hv
end Go.Proofs.YtncifeeinogcnaaDoor
/- Plain arithmetic for layer 1 (word): 'wr n', the number of the language that differs from n by a multiple of two to the 63, and what wrapping of 64 bits does to it. No walk here. -/
namespace Go.Proofs.YtncifeeinogcnaaDoor.Lx
open Go.RowKit

def wr (n : Int) : Int := (n + 4611686018427387904) % 9223372036854775808 - 4611686018427387904

theorem wrap64_eq (n : Int) : wrap64 n = (n + 9223372036854775808) % 18446744073709551616 - 9223372036854775808 := by
  unfold wrap64; omega
theorem wr_shift (n : Int) : wrap64 (n * 2) / 2 = wr n := by rw [wrap64_eq]; unfold wr; omega
end Go.Proofs.YtncifeeinogcnaaDoor.Lx
/- Plain lists of digits: the decimal digits of a number from 0 on, as bytes, and the number that a list of digits is. No walk here. -/
namespace Go.Proofs.YtncifeeinogcnaaDoor.Lx

/-- The decimal digits of n, at most f of them, each as its byte. -/
def dg : Nat → Int → List Int
  | 0, _ => []
  | f + 1, n => if n < 10 then [48 + n] else dg f (n / 10) ++ [48 + n % 10]

def val (l : List Int) : Int := l.foldl (fun m d => 10 * m + (d - 48)) 0

/-- The text of a number of the language, as the list of its bytes. -/
def shl (v : Int) : List Int := if v < 0 then 126 :: dg 19 (-v) else dg 19 v
def shw (v : Int) : ByteArray := strOfNums (shl v)
end Go.Proofs.YtncifeeinogcnaaDoor.Lx
/- The mathematics of tokens: what the bytes of a text are as tokens, and the text of tokens; nothing of the program is named here. -/
namespace Go.Proofs.LexMath

abbrev Bs := List UInt8
def iv (c : UInt8) : Int := c.toNat
def low (r : Int) : Bool := decide (97 ≤ r) && decide (r ≤ 122)
def upp (r : Int) : Bool := decide (65 ≤ r) && decide (r ≤ 90)
def ltr (r : Int) : Bool := low r || upp r
def dgt (r : Int) : Bool := decide (48 ≤ r) && decide (r ≤ 57)
def tl (r : Int) : Bool := ltr r || dgt r || (r == 95 || r == 39)
def opr (r : Int) : Bool := r == 33 || r == 36 || r == 37 || r == 38 || r == 42 || r == 43 || r == 45 || r == 47 || r == 58 || r == 60 || r == 61 || r == 62 || r == 63 || r == 64 || r == 94 || r == 124
def pln (r : Int) : Bool := decide (32 ≤ r) && decide (r ≤ 126)

/-- How many bytes at the head are of a class. -/
def run (p : Int → Bool) (l : Bs) : Nat := (l.takeWhile fun c => p (iv c)).length
theorem run_nil (p : Int → Bool) : run p [] = 0 := rfl
theorem run_yes (p : Int → Bool) (c : UInt8) (l : Bs) (h : p (iv c) = true) : run p (c :: l) = run p l + 1 := by simp [run, h]
theorem run_no (p : Int → Bool) (c : UInt8) (l : Bs) (h : p (iv c) = false) : run p (c :: l) = 0 := by simp [run, h]
def keys : List Bs := [[108, 101, 116], [114, 101, 99], [105, 110], [102, 117, 110], [105, 102], [116, 104, 101, 110], [101, 108, 115, 101], [109, 97, 116, 99, 104], [119, 105, 116, 104], [101, 110, 100], [114, 97, 105, 115, 101], [116, 114, 121], [111, 112, 101, 110], [116, 121, 112, 101], [111, 102], [105, 110, 102, 105, 120, 108], [105, 110, 102, 105, 120, 114], [105, 110, 102, 105, 120], [45, 62], [61], [124], [40], [41], [95], [59, 59]]
def key (t : Bs) : Bool := keys.contains t

/-- The byte for which the head of a text stands in a string, and how many bytes that is. -/
def hexv (r : Int) : Int := if 48 ≤ r ∧ r ≤ 57 then r - 48 else if 97 ≤ r ∧ r ≤ 102 then r - 87 else -1
def chr : Bs → Option (UInt8 × Nat)
  | [] => none
  | c :: r =>
    if iv c = 92 then
      match r with
      | [] => none
      | d :: r' =>
        if iv d = 34 ∨ iv d = 92 then some (d, 2)
        else if iv d = 110 then some (10, 2)
        else if iv d = 120 then
          match r' with
          | x :: y :: _ => if 0 ≤ hexv (iv x) ∧ 0 ≤ hexv (iv y) then some (UInt8.ofNat (16 * hexv (iv x) + hexv (iv y)).toNat, 4) else none
          | _ => none
        else none
    else if pln (iv c) then some (c, 1) else none
/-- A string that ends behind its closing sign: its bytes, and how many it takes. -/
def strF : Nat → Bs → Option (Bs × Nat)
  | 0, _ => none
  | _ + 1, [] => none
  | f + 1, c :: r =>
    if iv c = 34 then some ([], 1)
    else match chr (c :: r) with
      | none => none
      | some (b, n) => (strF f ((c :: r).drop n)).map fun x => (b :: x.1, n + x.2)
def str (l : Bs) : Option (Bs × Nat) := strF l.length l
def qbyte (c : UInt8) : Bs :=
  if iv c = 34 ∨ iv c = 92 then [92, c] else if iv c = 10 then [92, 110] else if pln (iv c) then [c]
  else [92, 120, hexd (iv c / 16), hexd (iv c % 16)]
where hexd (n : Int) : UInt8 := UInt8.ofNat (if n < 10 then 48 + n else 87 + n).toNat
def qbody (s : Bs) : Bs := s.flatMap qbyte
def quote (s : Bs) : Bs := 34 :: (qbody s ++ [34])
end Go.Proofs.LexMath
/- The mathematics of tokens, second part: the numbers, one token, all tokens, and what they are when shown, joined and read again; nothing of the program is named here. -/
namespace Go.Proofs.LexMath
open Go.Proofs.YtncifeeinogcnaaDoor.Lx Go.RowKit

def bs (l : Bs) : ByteArray := ⟨l.toArray⟩
def shwL (v : Int) : Bs := (shw v).data.toList
def rd : Bs → Int
  | [] => 0
  | c :: r => if iv c = 126 then -val (r.map iv) else val ((c :: r).map iv)
def num? (l : Bs) : Option Int := if -4611686018427387904 ≤ rd l ∧ rd l ≤ 4611686018427387903 ∧ shwL (rd l) = l then some (rd l) else none
structure Tok where
  kind : Int
  text : ByteArray
  num : Int
  at_ : Int
  deriving DecidableEq, Inhabited
inductive One where
  | tok (k : Int) (t : Bs) (v : Int) (n : Nat)
  | err (e : Int)
def wrd (k : Int) (t : Bs) : One := .tok (if key t then 6 else k) t 0 t.length
def one : Bs → One
  | [] => .err 30
  | c :: r =>
    if ltr (iv c) = true then wrd (if low (iv c) then 1 else 2) (c :: r.take (run tl r))
    else if iv c = 126 ∨ dgt (iv c) = true then
      match num? (c :: r.take (run dgt r)) with
      | some v => .tok 3 [] v (run dgt r + 1)
      | none => .err 31
    else if iv c = 34 then
      match str r with
      | some (t, m) => if t.length ≤ 200 then .tok 4 t 0 (m + 1) else .err 32
      | none => .err 32
    else if opr (iv c) = true then wrd 5 (c :: r.take (run opr r))
    else if iv c = 40 ∨ iv c = 41 ∨ iv c = 95 then .tok 6 [c] 0 1
    else if iv c = 59 ∧ r.head? = some 59 then .tok 6 [59, 59] 0 2
    else .err 30
def skp : Bool → Bs → Nat
  | _, [] => 0
  | true, c :: r => if iv c = 10 then skp false r + 1 else skp true r + 1
  | false, c :: r => if iv c = 32 ∨ iv c = 10 then skp false r + 1 else if iv c = 35 then skp true r + 1 else 0
inductive Res where
  | ok (l : List Tok)
  | err (e : Int) (p : Nat)
def Res.pre (acc : List Tok) : Res → Res
  | .ok l => .ok (acc ++ l)
  | .err e p => .err e p
def lexF : Nat → Nat → Nat → Bs → Res
  | 0, _, _, _ => .ok []
  | f + 1, p, n, l =>
    match l.drop (skp false l) with
    | [] => .ok []
    | c :: r =>
      match one (c :: r) with
      | .err e => .err e (p + skp false l)
      | .tok kd t v m =>
        if n = 4000 then .err 33 (p + skp false l)
        else (lexF f (p + skp false l + m) (n + 1) ((c :: r).drop m)).pre [⟨kd, bs t, v, ((p + skp false l : Nat) : Int)⟩]
def lexAt (p n : Nat) (l : Bs) : Res := lexF (l.length + 1) p n l
def lex (l : Bs) : Res := lexAt 0 0 l

end Go.Proofs.LexMath
/- The mathematics of tokens, fourth part: which tokens may be, their words, and that what is shown is read again. -/
namespace Go.Proofs.LexMath
open Go.Proofs.YtncifeeinogcnaaDoor.Lx Go.RowKit

def isw (first rest : Int → Bool) : Bs → Bool
  | [] => false
  | c :: r => first (iv c) && r.all fun d => rest (iv d)
def Tok.bytes (t : Tok) : Bs := t.text.data.toList
def rightB (t : Tok) : Bool :=
  decide (0 ≤ t.at_) &&
  (if t.kind = 1 then decide (t.num = 0) && isw low tl t.bytes && !key t.bytes
   else if t.kind = 2 then decide (t.num = 0) && isw upp tl t.bytes
   else if t.kind = 3 then t.bytes.isEmpty && decide (wr t.num = t.num)
   else if t.kind = 4 then decide (t.num = 0) && decide (t.bytes.length ≤ 200)
   else if t.kind = 5 then decide (t.num = 0) && isw opr opr t.bytes && !key t.bytes
   else if t.kind = 6 then decide (t.num = 0) && key t.bytes
   else false)
def wordL (t : Tok) : Bs := if t.kind = 3 then shwL t.num else if t.kind = 4 then quote t.bytes else t.bytes
def rest (ts : List Tok) : Bs := ts.flatMap fun u => 32 :: wordL u
end Go.Proofs.LexMath
