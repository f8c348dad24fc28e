/- Expressions and patterns as forests, what is wrong with one, and what is free in one: plain mathematics. -/
import Derived.Test.YtlalnmefppbebaaForest
import Derived.Test.YtlalnmefppbebaaLxM
namespace Go.Proofs.Ytlalnmefppbebaa
open Go.Proofs.TreeMath

/-! ### One node -/
def nameB (s : ByteArray) : Bool := Go.Proofs.LexMath.rightB ⟨1, s, 0, 0⟩ || Go.Proofs.LexMath.rightB ⟨5, s, 0, 0⟩
def conB (s : ByteArray) : Bool := Go.Proofs.LexMath.rightB ⟨2, s, 0, 0⟩
def belowP (p kind : Int) (i : Nat) : Int := if p = 0 then (if kind = 10 ∧ i % 2 = 1 then 1 else 0) else 2
def allowsB (p kind : Int) : Bool := if p = 0 then decide (1 ≤ kind) && decide (kind ≤ 12) else decide (21 ≤ kind) && decide (kind ≤ 24)
def numB (kind num : Int) : Bool := if kind = 1 ∨ kind = 23 then decide (Lx.wr num = num) else decide (num = 0)
def kidsB (kind kids : Int) : Bool :=
  if kind = 5 ∨ kind = 11 then decide (kids = 1)
  else if kind = 6 ∨ kind = 7 ∨ kind = 8 ∨ kind = 12 then decide (kids = 2)
  else if kind = 9 then decide (kids = 3)
  else if kind = 10 then decide (3 ≤ kids) && decide (kids % 2 = 1)
  else if kind = 24 then true
  else decide (kids = 0)
/-- What a kind's text is: 1 a name, 2 a constructor's, 3 any, 0 nothing. -/
def sortN (kind : Int) : Int :=
  if kind = 3 ∨ kind = 5 ∨ kind = 7 ∨ kind = 8 ∨ kind = 12 ∨ kind = 22 then 1
  else if kind = 4 ∨ kind = 24 then 2
  else if kind = 2 then 3
  else 0
def textE (kind : Int) (s : ByteArray) : Int :=
  if sortN kind = 1 then (if nameB s then 0 else 62)
  else if sortN kind = 2 then (if conB s then 0 else 62)
  else if sortN kind = 3 then (if s.size ≤ 200 then 0 else 61)
  else if s = ByteArray.empty then 0 else 61
def faultE (n : Nd) (hk p : Int) : Int :=
  if allowsB p n.kind && numB n.kind n.num && kidsB n.kind n.kids then (if n.kind = 8 ∧ hk ≠ 5 then 61 else textE n.kind n.text) else 61
theorem belowP_range (p kind : Int) (i : Nat) : 0 ≤ belowP p kind i ∧ belowP p kind i ≤ 2 := by
  unfold belowP
  repeat' split
  all_goals omega
theorem fault_next (n : Nd) (a b p : Int) (h : n.kids ≠ 2) : faultE n a p = faultE n b p := by
  by_cases h8 : n.kind = 8
  · have : kidsB n.kind n.kids = false := by rw [h8]; simp [kidsB, h]
    simp [faultE, this]
  · simp [faultE, h8]

/-! ### Trees -/
def headK : F → Int
  | .nil => 0
  | .cons n _ _ => n.kind
def varsF : F → List ByteArray
  | .nil => []
  | .cons n k r => (if n.kind = 22 then [n.text] else []) ++ (varsF k ++ varsF r)
def varsL (ns : List Nd) : List ByteArray := (ns.filter fun n => decide (n.kind = 22)).map Nd.text
theorem varsL_append (a b : List Nd) : varsL (a ++ b) = varsL a ++ varsL b := by simp [varsL]
theorem varsL_cons (n : Nd) (l : List Nd) : varsL (n :: l) = (if n.kind = 22 then [n.text] else []) ++ varsL l := by
  by_cases h : n.kind = 22 <;> simp [varsL, h]
theorem vars_flat (f : F) : varsL f.flat = varsF f := by
  induction f with
  | nil => rfl
  | cons n k r hk hr => simp only [F.flat, varsL_cons, varsL_append, varsF, hk, hr]
def inB (s : ByteArray) (l : List ByteArray) : Bool := l.any fun y => decide (y = s)
theorem inB_iff {s : ByteArray} {l : List ByteArray} : inB s l = true ↔ s ∈ l := by
  unfold inB
  rw [List.any_eq_true]
  constructor
  · rintro ⟨y, hy, e⟩
    have := of_decide_eq_true e
    subst this
    exact hy
  · exact fun h => ⟨s, h, decide_eq_true rfl⟩
def dupB : List ByteArray → Bool
  | [] => false
  | x :: l => inB x l || dupB l
def or_ (a b : Int) : Int := if a = 0 then b else a
theorem or_zero (a : Int) : or_ a 0 = a := by unfold or_; split <;> simp_all
theorem zero_or (a : Int) : or_ 0 a = a := by simp [or_]
theorem or_assoc (a b c : Int) : or_ (or_ a b) c = or_ a (or_ b c) := by
  unfold or_
  by_cases h : a = 0 <;> simp [h]
theorem or_eq_zero {a b : Int} : or_ a b = 0 ↔ a = 0 ∧ b = 0 := by
  unfold or_
  by_cases h : a = 0 <;> simp [h]
def chkF : F → (Nat → Int) → Nat → Int
  | .nil, _, _ => 0
  | .cons n k r, q, i => or_ (faultE n (headK k) (q i)) (or_ (chkF k (belowP (q i) n.kind) 0) (chkF r q (i + 1)))
def twE (p : Int) (l : List ByteArray) : Int := if p = 1 ∧ dupB l = true then 63 else 0
def twF : F → (Nat → Int) → Nat → Int
  | .nil, _, _ => 0
  | .cons n k r, q, i => or_ (twE (q i) (varsF (.cons n k .nil))) (or_ (twF k (belowP (q i) n.kind) 0) (twF r q (i + 1)))
def deepF : F → Nat
  | .nil => 0
  | .cons _ k r => max (1 + deepF k) (deepF r)
/-- Whether a tree is an expression (0), a pattern (1). -/
def synE (f : F) (root : Int) : Int := if 4000 < f.sz ∨ 100 < deepF f then 60 else or_ (chkF f (fun _ => root) 0) (twF f (fun _ => root) 0)

/-! ### The depth -/
def treesK : F → List (List Int)
  | .nil => []
  | .cons n k r => (n.kids :: kk k.flat) :: treesK r
theorem trees_flat (f : F) : (treesK f).flatten = kk f.flat := by
  induction f with
  | nil => rfl
  | cons n k r _ hr => simp [treesK, F.flat, hr, kk_cons, kk_append]
theorem trees_length (f : F) : (treesK f).length = f.cnt := by
  induction f with
  | nil => rfl
  | cons n k r _ hr => simp [treesK, F.cnt, hr]
theorem one_flat (n : Nd) (k : F) : (F.cons n k .nil).flat = n :: k.flat := by simp [F.flat]
theorem whole_one (n : Nd) (k : F) (h1 : n.kids = k.cnt) (h2 : k.ok) : wholeB (n.kids :: kk k.flat) = true := by
  have := whole_flat (.cons n k .nil) ⟨h1, h2, trivial⟩ rfl
  rwa [one_flat, kk_cons] at this
theorem trees_whole (f : F) : f.ok → ∀ t ∈ treesK f, wholeB t = true := by
  induction f with
  | nil => intro _ t ht; simp [treesK] at ht
  | cons n k r _ hr =>
    rintro ⟨h1, h2, h3⟩ t ht
    simp only [treesK, List.mem_cons] at ht
    rcases ht with rfl | ht
    · exact whole_one n k h1 h2
    · exact hr h3 t ht
theorem deep_mx (f : F) : f.ok → (∀ d, 1 ≤ d → mx d 1 (treesK f) = max d (1 + deepF f)) ∧ ∀ n : Nd, n.kids = f.cnt → deepI (n.kids :: kk f.flat) = 1 + deepF f := by
  induction f with
  | nil =>
    intro _
    refine ⟨fun d hd => by simp only [treesK, mx, List.foldl_nil, deepF]; omega, fun n hn => ?_⟩
    have hw := whole_one n .nil hn trivial
    have := deepI_parts n.kids [] (by rw [hn]; rfl) (by simpa [F.flat, kk] using hw) (by simp)
    simpa [F.flat, kk, mx, deepF] using this
  | cons n k r hk hr =>
    rintro ⟨h1, h2, h3⟩
    have a : ∀ d, 1 ≤ d → mx d 1 (treesK (.cons n k r)) = max d (1 + deepF (.cons n k r)) := by
      intro d hd
      simp only [treesK, mx_cons, (hk h2).2 n h1]
      rw [(hr h3).1 _ (by omega)]
      simp only [deepF]
      omega
    refine ⟨a, fun m hm => ?_⟩
    have hw := whole_one m (.cons n k r) hm ⟨h1, h2, h3⟩
    rw [← trees_flat] at hw ⊢
    rw [deepI_parts m.kids _ (by rw [hm, trees_length]; rfl) hw (trees_whole _ ⟨h1, h2, h3⟩), a 1 (Nat.le_refl _)]
    omega
theorem one_of (f : F) (hc : f.cnt = 1) : ∃ n k, f = .cons n k .nil := by
  cases f with
  | nil => simp [F.cnt] at hc
  | cons n k r =>
    cases r with
    | nil => exact ⟨n, k, rfl⟩
    | cons _ _ _ => simp [F.cnt] at hc
theorem deep_flat (f : F) (h : f.ok) (hc : f.cnt = 1) : deepI (kk f.flat) = deepF f := by
  obtain ⟨n, k, rfl⟩ := one_of f hc
  rw [one_flat, kk_cons, (deep_mx k h.2.1).2 n h.1]
  simp [deepF]

/-! ### All nodes in order, with the places of the trees that are still to come -/
def visL (see : Nat → Int → Int) : List Nd → Nat → List Int → Int
  | [], _, _ => 0
  | n :: l, i, st => or_ (see i (st.headD 0)) (visL see l (i + 1) ((List.range n.kids.toNat).map (belowP (st.headD 0) n.kind) ++ st.tail))
def visF (see : Nat → Int → Int) : F → Nat → (Nat → Int) → Nat → Int
  | .nil, _, _, _ => 0
  | .cons n k r, a, q, i => or_ (see a (q i)) (or_ (visF see k (a + 1) (belowP (q i) n.kind) 0) (visF see r (a + 1 + k.sz) q (i + 1)))
def plsF (q : Nat → Int) (i c : Nat) : List Int := (List.range c).map fun j => q (i + j)
theorem pls_succ (q : Nat → Int) (i c : Nat) : plsF q i (c + 1) = q i :: plsF q (i + 1) c := by
  unfold plsF
  rw [List.range_succ_eq_map, List.map_cons, List.map_map]
  congr 1
  apply List.map_congr_left
  intro j _
  show q (i + (j + 1)) = q (i + 1 + j)
  congr 1
  omega
theorem vis_flat (see : Nat → Int → Int) (f : F) : f.ok → ∀ (R : List Nd) (a : Nat) (q : Nat → Int) (i : Nat) (st : List Int),
    visL see (f.flat ++ R) a (plsF q i f.cnt ++ st) = or_ (visF see f a q i) (visL see R (a + f.sz) st) := by
  induction f with
  | nil => intro _ R a q i st; simp [F.flat, F.cnt, F.sz, plsF, visF, or_]
  | cons n k r hk hr =>
    rintro ⟨h1, h2, h3⟩ R a q i st
    simp only [F.flat, F.cnt, F.sz, pls_succ, List.cons_append, visL, visF, List.headD_cons, List.tail_cons]
    have e : (List.range n.kids.toNat).map (belowP (q i) n.kind) = plsF (belowP (q i) n.kind) 0 k.cnt := by
      rw [h1, Int.toNat_natCast]
      unfold plsF
      apply List.map_congr_left
      intro j _
      rw [Nat.zero_add]
    rw [e, List.append_assoc, hk h2, hr h3, or_assoc, or_assoc, show a + 1 + k.sz + r.sz = a + (1 + k.sz + r.sz) by omega]
theorem vis_one (see : Nat → Int → Int) (f : F) (h : f.ok) (hc : f.cnt = 1) (root : Int) : visL see f.flat 0 [root] = visF see f 0 (fun _ => root) 0 := by
  have := vis_flat see f h [] 0 (fun _ => root) 0 []
  rw [hc] at this
  simpa [plsF, visL, or_zero] using this
def see1 (ns : List Nd) (i : Nat) (p : Int) : Int := faultE (ns.getD i default) (ns.getD (i + 1) default).kind p
def see2 (ns : List Nd) (i : Nat) (p : Int) : Int := twE p (varsL ((ns.drop i).take ((fin (kk ns) i 1).toNat - i)))
theorem sub_flat (n : Nd) (k : F) (h1 : n.kids = k.cnt) (h2 : k.ok) (pre post : List Nd) (ns : List Nd) (hns : ns = pre ++ (n :: (k.flat ++ post))) : (ns.drop pre.length).take ((fin (kk ns) pre.length 1).toNat - pre.length) = n :: k.flat := by
  have t : fin (kk (pre ++ ((F.cons n k .nil).flat ++ post))) pre.length 1 = ((pre.length + (1 + k.sz) : Nat) : Int) := fin_flat (.cons n k .nil) ⟨h1, h2, trivial⟩ pre post
  have e : pre ++ ((F.cons n k .nil).flat ++ post) = ns := by rw [hns]; simp [F.flat]
  rw [e] at t
  rw [t, Int.toNat_natCast, hns, List.drop_left, show pre.length + (1 + k.sz) - pre.length = (n :: k.flat).length by simp [F.flat_length]; omega]
  rw [← List.cons_append, List.take_left]
theorem see_one (ns : List Nd) (f : F) : f.ok → ∀ (pre post : List Nd) (q : Nat → Int) (i : Nat), ns = pre ++ (f.flat ++ post) → visF (see1 ns) f pre.length q i = chkF f q i := by
  induction f with
  | nil => intros; rfl
  | cons n k r hk hr =>
    rintro ⟨h1, h2, h3⟩ pre post q i hns
    have a : see1 ns pre.length (q i) = faultE n (headK k) (q i) := by
      have g0 : ns.getD pre.length default = n := by rw [hns]; simp [F.flat, List.getD_eq_getElem?_getD]
      unfold see1
      rw [g0]
      cases k with
      | nil => exact fault_next n _ _ _ (by rw [h1]; simp [F.cnt])
      | cons m k' r' =>
        have g1 : ns.getD (pre.length + 1) default = m := by rw [hns]; simp [F.flat, List.getD_eq_getElem?_getD]
        rw [g1]
        rfl
    have b := hk h2 (pre ++ [n]) (r.flat ++ post) (belowP (q i) n.kind) 0 (by rw [hns]; simp [F.flat])
    have c := hr h3 (pre ++ (n :: k.flat)) post q (i + 1) (by rw [hns]; simp [F.flat])
    rw [List.length_append] at b c
    simp only [List.length_cons, List.length_nil, F.flat_length] at b c
    simp only [visF, chkF, a]
    rw [← b, ← c, show pre.length + 1 + k.sz = pre.length + (k.sz + 1) by omega]
theorem see_two (ns : List Nd) (f : F) : f.ok → ∀ (pre post : List Nd) (q : Nat → Int) (i : Nat), ns = pre ++ (f.flat ++ post) → visF (see2 ns) f pre.length q i = twF f q i := by
  induction f with
  | nil => intros; rfl
  | cons n k r hk hr =>
    rintro ⟨h1, h2, h3⟩ pre post q i hns
    have a : see2 ns pre.length (q i) = twE (q i) (varsF (.cons n k .nil)) := by
      unfold see2
      rw [sub_flat n k h1 h2 pre (r.flat ++ post) ns (by rw [hns]; simp [F.flat]), ← one_flat, vars_flat]
    have b := hk h2 (pre ++ [n]) (r.flat ++ post) (belowP (q i) n.kind) 0 (by rw [hns]; simp [F.flat])
    have c := hr h3 (pre ++ (n :: k.flat)) post q (i + 1) (by rw [hns]; simp [F.flat])
    rw [List.length_append] at b c
    simp only [List.length_cons, List.length_nil, F.flat_length] at b c
    simp only [visF, twF, a]
    rw [← b, ← c, show pre.length + 1 + k.sz = pre.length + (k.sz + 1) by omega]

/-! ### What is free -/
def bindsB (kind : Int) (i : Nat) : Bool := if kind = 5 ∨ kind = 8 then true else if kind = 7 ∨ kind = 12 then decide (i = 1) else false
def lessL (l by' : List ByteArray) : List ByteArray := l.filter fun s => !inB s by'
def freeK : F → Int → ByteArray → Nat → List ByteArray → List ByteArray
  | .nil, _, _, _, _ => []
  | .cons n k r, kind, txt, i, names =>
    if kind = 10 ∧ i % 2 = 1 then freeK r kind txt (i + 1) (varsF (.cons n k .nil))
    else
      lessL ((if n.kind = 3 then [n.text] else []) ++ freeK k n.kind n.text 0 []) (if bindsB kind i then [txt] else names) ++ freeK r kind txt (i + 1) (if bindsB kind i then [txt] else names)
def freeT (n : Nd) (k : F) : List ByteArray := (if n.kind = 3 then [n.text] else []) ++ freeK k n.kind n.text 0 []
theorem freeK_pat (n : Nd) (k r : F) (kind : Int) (txt : ByteArray) (i : Nat) (names : List ByteArray) (h : kind = 10 ∧ i % 2 = 1) : freeK (.cons n k r) kind txt i names = freeK r kind txt (i + 1) (varsF (.cons n k .nil)) := by
  rw [freeK, if_pos h]
theorem freeK_exp (n : Nd) (k r : F) (kind : Int) (txt : ByteArray) (i : Nat) (names : List ByteArray) (h : ¬ (kind = 10 ∧ i % 2 = 1)) :
    freeK (.cons n k r) kind txt i names = lessL (freeT n k) (if bindsB kind i then [txt] else names) ++ freeK r kind txt (i + 1) (if bindsB kind i then [txt] else names) := by
  rw [freeK, if_neg h]; rfl
/-- Each once, behind what is there. -/
def addAll (acc l : List ByteArray) : List ByteArray := l.foldl (fun a s => if inB s a then a else a ++ [s]) acc
theorem addAll_append (acc a b : List ByteArray) : addAll acc (a ++ b) = addAll (addAll acc a) b := by simp [addAll, List.foldl_append]
theorem lessL_nil (l : List ByteArray) : lessL l [] = l := by simp [lessL, inB]
theorem lessL_append (a b c : List ByteArray) : lessL (a ++ b) c = lessL a c ++ lessL b c := by simp [lessL]
end Go.Proofs.Ytlalnmefppbebaa
