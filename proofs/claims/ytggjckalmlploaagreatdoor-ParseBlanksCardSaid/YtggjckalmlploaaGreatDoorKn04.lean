/- Texts of this seat, one behind the other: LxLexA, LxLexB. -/
import Derived.Test.YtggjckalmlploaaGreatDoorKn03
/- The mathematics of tokens: what the bytes of a text are as tokens, and the text of tokens; nothing of the program is named here. -/
namespace Go.Proofs.LexMath

abbrev Bs := List UInt8
def iv (c : UInt8) : Int := c.toNat
theorem iv_range (c : UInt8) : 0 ≤ iv c ∧ iv c ≤ 255 := by have := c.toNat_lt; unfold iv; omega
theorem iv_inj {a b : UInt8} (h : iv a = iv b) : a = b := by unfold iv at h; exact UInt8.toNat_inj.1 (by omega)

def low (r : Int) : Bool := decide (97 ≤ r) && decide (r ≤ 122)
def upp (r : Int) : Bool := decide (65 ≤ r) && decide (r ≤ 90)
def ltr (r : Int) : Bool := low r || upp r
def dgt (r : Int) : Bool := decide (48 ≤ r) && decide (r ≤ 57)
def tl (r : Int) : Bool := ltr r || dgt r || (r == 95 || r == 39)
def opr (r : Int) : Bool := r == 33 || r == 36 || r == 37 || r == 38 || r == 42 || r == 43 || r == 45 || r == 47 || r == 58 || r == 60 || r == 61 || r == 62 || r == 63 || r == 64 || r == 94 || r == 124
def pln (r : Int) : Bool := decide (32 ≤ r) && decide (r ≤ 126)

/-- How many bytes at the head are of a class. -/
def run (p : Int → Bool) (l : Bs) : Nat := (l.takeWhile fun c => p (iv c)).length
theorem run_le (p : Int → Bool) (l : Bs) : run p l ≤ l.length := by
  unfold run
  induction l with
  | nil => simp
  | cons c l ih => simp only [List.takeWhile_cons]; split <;> simp <;> omega
theorem run_nil (p : Int → Bool) : run p [] = 0 := rfl
theorem run_yes (p : Int → Bool) (c : UInt8) (l : Bs) (h : p (iv c) = true) : run p (c :: l) = run p l + 1 := by simp [run, h]
theorem run_no (p : Int → Bool) (c : UInt8) (l : Bs) (h : p (iv c) = false) : run p (c :: l) = 0 := by simp [run, h]
theorem run_stop (p : Int → Bool) (l x : Bs) (hx : x = [] ∨ ∃ c y, x = c :: y ∧ p (iv c) = false) : run p (l ++ x) = run p l := by
  induction l with
  | nil =>
    rcases hx with rfl | ⟨c, y, rfl, hc⟩
    · rfl
    · rw [List.nil_append, run_no p c y hc]; rfl
  | cons a l ih =>
    by_cases h : p (iv a) = true
    · rw [List.cons_append, run_yes p _ _ h, run_yes p _ _ h, ih]
    · have h' : p (iv a) = false := by simpa using h
      rw [List.cons_append, run_no p _ _ h', run_no p _ _ h']
theorem run_mem (p : Int → Bool) (l : Bs) : ∀ c ∈ l.take (run p l), p (iv c) = true := by
  induction l with
  | nil => simp
  | cons a l ih =>
    by_cases h : p (iv a) = true
    · rw [run_yes p a l h, List.take_succ_cons]
      intro c hc
      rcases List.mem_cons.1 hc with rfl | hc
      · exact h
      · exact ih c hc
    · have h' : p (iv a) = false := by simpa using h
      rw [run_no p a l h']; simp

def keys : List Bs := [[108, 101, 116], [114, 101, 99], [105, 110], [102, 117, 110], [105, 102], [116, 104, 101, 110], [101, 108, 115, 101], [109, 97, 116, 99, 104], [119, 105, 116, 104], [101, 110, 100], [114, 97, 105, 115, 101], [116, 114, 121], [111, 112, 101, 110], [116, 121, 112, 101], [111, 102], [105, 110, 102, 105, 120, 108], [105, 110, 102, 105, 120, 114], [105, 110, 102, 105, 120], [45, 62], [61], [124], [40], [41], [95], [59, 59]]
def key (t : Bs) : Bool := keys.contains t

/-- The byte for which the head of a text stands in a string, and how many bytes that is. -/
def hexv (r : Int) : Int := if 48 ≤ r ∧ r ≤ 57 then r - 48 else if 97 ≤ r ∧ r ≤ 102 then r - 87 else -1
def chr : Bs → Option (UInt8 × Nat)
  | [] => none
  | c :: r =>
    if iv c = 92 then
      match r with
      | [] => none
      | d :: r' =>
        if iv d = 34 ∨ iv d = 92 then some (d, 2)
        else if iv d = 110 then some (10, 2)
        else if iv d = 120 then
          match r' with
          | x :: y :: _ => if 0 ≤ hexv (iv x) ∧ 0 ≤ hexv (iv y) then some (UInt8.ofNat (16 * hexv (iv x) + hexv (iv y)).toNat, 4) else none
          | _ => none
        else none
    else if pln (iv c) then some (c, 1) else none
theorem chr_size {l : Bs} {b : UInt8} {n : Nat} (h : chr l = some (b, n)) : 1 ≤ n ∧ n ≤ l.length := by
  rcases l with _ | ⟨c, r⟩
  · simp [chr] at h
  · simp only [chr] at h
    split at h
    · rcases r with _ | ⟨d, r'⟩
      · simp at h
      · simp only at h
        split at h
        · simp at h; simp [← h.2]
        · split at h
          · simp at h; simp [← h.2]
          · split at h
            · split at h
              · split at h
                · simp at h; simp [← h.2]
                · simp at h
              · simp at h
            · simp at h
    · split at h
      · simp at h; simp [← h.2]
      · simp at h
/-- A string that ends behind its closing sign: its bytes, and how many it takes. -/
def strF : Nat → Bs → Option (Bs × Nat)
  | 0, _ => none
  | _ + 1, [] => none
  | f + 1, c :: r =>
    if iv c = 34 then some ([], 1)
    else match chr (c :: r) with
      | none => none
      | some (b, n) => (strF f ((c :: r).drop n)).map fun x => (b :: x.1, n + x.2)
theorem strF_more : ∀ (f g : Nat) (l : Bs), l.length ≤ f → l.length ≤ g → strF f l = strF g l := by
  intro f
  induction f with
  | zero =>
    intro g l hf hg
    obtain rfl : l = [] := List.eq_nil_of_length_eq_zero (by omega)
    cases g <;> rfl
  | succ f ih =>
    intro g l hf hg
    rcases l with _ | ⟨c, r⟩
    · cases g <;> rfl
    · rcases g with _ | g
      · simp at hg
      · simp only [strF]
        split
        · rfl
        · cases hc : chr (c :: r) with
          | none => rfl
          | some bn =>
            obtain ⟨b, n⟩ := bn
            have hs := chr_size hc
            have hl : ((c :: r).drop n).length = r.length + 1 - n := by simp
            simp only [List.length_cons] at hf hg
            simp only
            rw [ih g ((c :: r).drop n) (by rw [hl]; omega) (by rw [hl]; omega)]
def str (l : Bs) : Option (Bs × Nat) := strF l.length l
theorem str_nil : str [] = none := rfl
theorem str_end (c : UInt8) (r : Bs) (h : iv c = 34) : str (c :: r) = some ([], 1) := by simp [str, strF, h]
theorem str_bad (l : Bs) (hc : chr l = none) (h : ∀ c r, l = c :: r → ¬ iv c = 34) : str l = none := by
  rcases l with _ | ⟨c, r⟩
  · rfl
  · simp [str, strF, h c r rfl, hc]
theorem str_step {l : Bs} {b : UInt8} {n : Nat} (hc : chr l = some (b, n)) (h : ∀ c r, l = c :: r → ¬ iv c = 34) : str l = (str (l.drop n)).map fun x => (b :: x.1, n + x.2) := by
  have hs := chr_size hc
  rcases l with _ | ⟨c, r⟩
  · simp [chr] at hc
  · simp only [str, List.length_cons, strF, h c r rfl, if_false, hc]
    rw [strF_more r.length ((c :: r).drop n).length _ (by simp; omega) (Nat.le_refl _)]

def qbyte (c : UInt8) : Bs :=
  if iv c = 34 ∨ iv c = 92 then [92, c] else if iv c = 10 then [92, 110] else if pln (iv c) then [c]
  else [92, 120, hexd (iv c / 16), hexd (iv c % 16)]
where hexd (n : Int) : UInt8 := UInt8.ofNat (if n < 10 then 48 + n else 87 + n).toNat
def qbody (s : Bs) : Bs := s.flatMap qbyte
def quote (s : Bs) : Bs := 34 :: (qbody s ++ [34])
theorem iv_ofNat (n : Nat) (h : n < 256) : iv (UInt8.ofNat n) = n := by unfold iv; rw [UInt8.toNat_ofNat']; omega
end Go.Proofs.LexMath
/- The mathematics of tokens, second part: the numbers, one token, all tokens, and what they are when shown, joined and read again; nothing of the program is named here. -/
namespace Go.Proofs.LexMath
open Go.Proofs.YtggjckalmlploaaGreatDoor.Lx Go.RowKit

def bs (l : Bs) : ByteArray := ⟨l.toArray⟩
theorem bs_list (l : Bs) : (bs l).data.toList = l := by simp [bs]
theorem bs_of (s : ByteArray) : bs s.data.toList = s := by cases s; simp [bs]
theorem list_inj {a b : ByteArray} (h : a.data.toList = b.data.toList) : a = b := by rw [← bs_of a, h, bs_of]
def shwL (v : Int) : Bs := (shw v).data.toList
def rd : Bs → Int
  | [] => 0
  | c :: r => if iv c = 126 then -val (r.map iv) else val ((c :: r).map iv)
def num? (l : Bs) : Option Int := if -4611686018427387904 ≤ rd l ∧ rd l ≤ 4611686018427387903 ∧ shwL (rd l) = l then some (rd l) else none
theorem num_some {l : Bs} {v : Int} (h : num? l = some v) : (-4611686018427387904 ≤ v ∧ v ≤ 4611686018427387903) ∧ shwL v = l := by
  unfold num? at h
  split at h
  · rename_i g
    injection h with h
    subst h
    exact ⟨⟨g.1, g.2.1⟩, g.2.2⟩
  · cases h
theorem map_iv (l : List Int) (h : ∀ d ∈ l, 48 ≤ d ∧ d ≤ 57) : (l.map fun n => UInt8.ofNat n.toNat).map iv = l := by
  rw [List.map_map]
  conv => rhs; rw [← List.map_id l]
  apply List.map_congr_left
  intro d hd
  have := h d hd
  simp only [Function.comp, id]
  rw [iv_ofNat _ (by omega)]; omega
theorem shwL_neg (v : Int) (h : v < 0) : shwL v = 126 :: (dg 19 (-v)).map fun n => UInt8.ofNat n.toNat := by
  unfold shwL shw
  rw [strOfNums_data, shl_neg v h]
  rfl
theorem shwL_pos (v : Int) (h : 0 ≤ v) : shwL v = (dg 19 v).map fun n => UInt8.ofNat n.toNat := by
  unfold shwL shw
  rw [strOfNums_data, shl_pos v h]
theorem dg_cons (v : Int) : ∃ d r, dg 19 v = d :: r := by
  have h := dg_ne 18 v
  cases hd : dg 19 v with
  | nil => rw [hd] at h; simp at h
  | cons d r => exact ⟨d, r, rfl⟩
theorem rd_shw (v : Int) (h0 : -4611686018427387904 ≤ v) (h1 : v ≤ 4611686018427387903) : rd (shwL v) = v := by
  by_cases h : v < 0
  · rw [shwL_neg v h]
    show (if iv 126 = 126 then -val (((dg 19 (-v)).map fun n => UInt8.ofNat n.toNat).map iv) else val ((126 :: (dg 19 (-v)).map fun n => UInt8.ofNat n.toNat).map iv)) = v
    rw [if_pos (show iv 126 = 126 from rfl), map_iv _ (dg_digit 19 (-v) (by omega)), dg_val 19 (-v) (by omega) (by rw [p10_19]; omega)]
    omega
  · rw [shwL_pos v (by omega)]
    have hd := dg_digit 19 v (by omega)
    have hm := map_iv _ hd
    have hv := dg_val 19 v (by omega) (by rw [p10_19]; omega)
    obtain ⟨d, r, e⟩ := dg_cons v
    rw [e] at hm hd hv ⊢
    rw [List.map_cons] at hm ⊢
    show (if iv _ = 126 then _ else _) = v
    have := hd d (by simp)
    rw [if_neg (by rw [iv_ofNat _ (by omega)]; omega), hm, hv]
theorem num_shw (v : Int) (h0 : -4611686018427387904 ≤ v) (h1 : v ≤ 4611686018427387903) : num? (shwL v) = some v := by
  unfold num?
  rw [rd_shw v h0 h1, if_pos ⟨h0, h1, rfl⟩]
theorem num_none {l : Bs} (h : num? l = none) : ∀ v, -4611686018427387904 ≤ v → v ≤ 4611686018427387903 → ¬ shw v = bs l := by
  intro v h0 h1 e
  have : shwL v = l := by unfold shwL; rw [e, bs_list]
  rw [← this, num_shw v h0 h1] at h
  cases h

structure Tok where
  kind : Int
  text : ByteArray
  num : Int
  at_ : Int
  deriving DecidableEq, Inhabited
def Tok.core (t : Tok) : Int × ByteArray × Int := (t.kind, t.text, t.num)
def sameL (a b : List Tok) : Prop := a.map Tok.core = b.map Tok.core

inductive One where
  | tok (k : Int) (t : Bs) (v : Int) (n : Nat)
  | err (e : Int)
def wrd (k : Int) (t : Bs) : One := .tok (if key t then 6 else k) t 0 t.length
def one : Bs → One
  | [] => .err 30
  | c :: r =>
    if ltr (iv c) = true then wrd (if low (iv c) then 1 else 2) (c :: r.take (run tl r))
    else if iv c = 126 ∨ dgt (iv c) = true then
      match num? (c :: r.take (run dgt r)) with
      | some v => .tok 3 [] v (run dgt r + 1)
      | none => .err 31
    else if iv c = 34 then
      match str r with
      | some (t, m) => if t.length ≤ 200 then .tok 4 t 0 (m + 1) else .err 32
      | none => .err 32
    else if opr (iv c) = true then wrd 5 (c :: r.take (run opr r))
    else if iv c = 40 ∨ iv c = 41 ∨ iv c = 95 then .tok 6 [c] 0 1
    else if iv c = 59 ∧ r.head? = some 59 then .tok 6 [59, 59] 0 2
    else .err 30
def skp : Bool → Bs → Nat
  | _, [] => 0
  | true, c :: r => if iv c = 10 then skp false r + 1 else skp true r + 1
  | false, c :: r => if iv c = 32 ∨ iv c = 10 then skp false r + 1 else if iv c = 35 then skp true r + 1 else 0
def nl (r : Int) : Bool := r != 10
inductive Res where
  | ok (l : List Tok)
  | err (e : Int) (p : Nat)
def Res.pre (acc : List Tok) : Res → Res
  | .ok l => .ok (acc ++ l)
  | .err e p => .err e p
theorem Res.pre_nil (r : Res) : r.pre [] = r := by cases r <;> rfl
theorem Res.pre_pre (a b : List Tok) (r : Res) : (r.pre b).pre a = r.pre (a ++ b) := by cases r <;> simp [Res.pre]
def lexF : Nat → Nat → Nat → Bs → Res
  | 0, _, _, _ => .ok []
  | f + 1, p, n, l =>
    match l.drop (skp false l) with
    | [] => .ok []
    | c :: r =>
      match one (c :: r) with
      | .err e => .err e (p + skp false l)
      | .tok kd t v m =>
        if n = 4000 then .err 33 (p + skp false l)
        else (lexF f (p + skp false l + m) (n + 1) ((c :: r).drop m)).pre [⟨kd, bs t, v, ((p + skp false l : Nat) : Int)⟩]
def lexAt (p n : Nat) (l : Bs) : Res := lexF (l.length + 1) p n l
def lex (l : Bs) : Res := lexAt 0 0 l

theorem str_size {l t : Bs} {m : Nat} (h : str l = some (t, m)) : 1 ≤ m ∧ m ≤ l.length := by
  obtain ⟨k, hk⟩ : ∃ k, l.length ≤ k := ⟨_, Nat.le_refl _⟩
  induction k generalizing l t m with
  | zero =>
    obtain rfl : l = [] := List.eq_nil_of_length_eq_zero (by omega)
    cases h
  | succ k ih =>
    rcases l with _ | ⟨c, r⟩
    · cases h
    · by_cases h34 : iv c = 34
      · rw [str_end c r h34] at h
        simp at h
        obtain ⟨_, rfl⟩ := h
        simp
      · have hh : ∀ c' r', c :: r = c' :: r' → ¬ iv c' = 34 := by intro c' r' e; injection e with e1 e2; rw [← e1]; exact h34
        cases hc : chr (c :: r) with
        | none => rw [str_bad _ hc hh] at h; cases h
        | some bn =>
          obtain ⟨b, n⟩ := bn
          have hs := chr_size hc
          rw [str_step hc hh] at h
          cases hq : str ((c :: r).drop n) with
          | none => rw [hq] at h; cases h
          | some x =>
            obtain ⟨t', m'⟩ := x
            rw [hq] at h
            simp at h
            have h2 := ih hq (by rw [List.length_drop]; simp only [List.length_cons] at hk ⊢; omega)
            rw [List.length_drop] at h2
            omega
theorem one_size {l t : Bs} {k v : Int} {m : Nat} (h : one l = .tok k t v m) : 1 ≤ m ∧ m ≤ l.length := by
  rcases l with _ | ⟨c, r⟩
  · cases h
  · have r1 := run_le tl r
    have r2 := run_le dgt r
    have r3 := run_le opr r
    have wl : ∀ (k' : Int) (p : Int → Bool), run p r ≤ r.length → wrd k' (c :: r.take (run p r)) = .tok k t v m → 1 ≤ m ∧ m ≤ (c :: r).length := by
      intro k' p hp h
      unfold wrd at h
      injection h with _ _ _ h4
      rw [← h4]
      simp; omega
    simp only [one] at h
    split at h
    · exact wl _ _ r1 h
    · split at h
      · split at h
        · injection h with _ _ _ h4
          rw [← h4]; simp; omega
        · cases h
      · split at h
        · split at h
          · rename_i hs
            have := str_size hs
            split at h
            · injection h with _ _ _ h4
              rw [← h4]; simp; omega
            · cases h
          · cases h
        · split at h
          · exact wl _ _ r3 h
          · split at h
            · injection h with _ _ _ h4
              rw [← h4]; simp
            · split at h
              · rename_i hh
                injection h with _ _ _ h4
                rw [← h4]
                rcases r with _ | ⟨d, r⟩
                · simp at hh
                · simp
              · cases h
theorem skp_le : ∀ (b : Bool) (l : Bs), skp b l ≤ l.length
  | _, [] => by simp [skp]
  | true, c :: r => by
    have h1 := skp_le false r
    have h2 := skp_le true r
    simp only [skp]; split <;> simp <;> omega
  | false, c :: r => by
    have h1 := skp_le false r
    have h2 := skp_le true r
    simp only [skp]
    split
    · simp; omega
    · split <;> simp
      omega
theorem lexF_more : ∀ (f g p n : Nat) (l : Bs), l.length < f → l.length < g → lexF f p n l = lexF g p n l := by
  intro f
  induction f with
  | zero => intro g p n l h; omega
  | succ f ih =>
    intro g p n l hf hg
    obtain ⟨g, rfl⟩ : ∃ g', g = g' + 1 := ⟨g - 1, by omega⟩
    simp only [lexF]
    have hk := skp_le false l
    have hl : (l.drop (skp false l)).length ≤ l.length := by simp
    cases hd : l.drop (skp false l) with
    | nil => rfl
    | cons c r =>
      rw [hd] at hl
      simp only
      cases ho : one (c :: r) with
      | err e => rfl
      | tok kd t v m =>
        have hs := one_size ho
        simp only
        split
        · rfl
        · have h1 : ((c :: r).drop m).length = r.length + 1 - m := by simp
          simp only [List.length_cons] at hl
          rw [ih g _ _ _ (by rw [h1]; omega) (by rw [h1]; omega)]
theorem lexAt_nil (p n : Nat) : lexAt p n [] = .ok [] := rfl
theorem skp_two : ∀ (b : Bool) (l : Bs), skp false (l.drop (skp b l)) = 0
  | _, [] => by simp [skp]
  | true, c :: r => by
    have h1 := skp_two false r
    have h2 := skp_two true r
    simp only [skp]; split <;> simpa using by assumption
  | false, c :: r => by
    have h1 := skp_two false r
    have h2 := skp_two true r
    by_cases a : iv c = 32 ∨ iv c = 10
    · simp only [skp, a, if_true]; simpa using h1
    · by_cases b : iv c = 35
      · simp only [skp, b, if_true]; simpa [a] using h2
      · simp [skp, a, b]
theorem lexAt_skp (p n : Nat) (l : Bs) : lexAt p n l = lexAt (p + skp false l) n (l.drop (skp false l)) := by
  have hk := skp_le false l
  have hz := skp_two false l
  unfold lexAt
  rw [lexF_more ((l.drop (skp false l)).length + 1) (l.length + 1) _ _ _ (by omega) (by simp; omega)]
  generalize hd : l.drop (skp false l) = d at *
  simp only [lexF, hd, hz, List.drop_zero, Nat.add_zero]
end Go.Proofs.LexMath
