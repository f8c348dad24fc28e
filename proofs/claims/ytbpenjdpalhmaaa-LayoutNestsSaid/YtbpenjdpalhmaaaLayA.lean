/- Documents as forests, and how they are laid out: plain mathematics. -/
import Derived.Test.YtbpenjdpalhmaaaViews
namespace Go.Proofs.Ytbpenjdpalhmaaa
open Go.Proofs.TreeMath

/-- A list of trees: the first one's node, its kids, and the others. -/
inductive F where
  | nil
  | cons (n : Nd) (k r : F)
namespace F
def flat : F → List Nd
  | nil => []
  | cons n k r => n :: (k.flat ++ r.flat)
def cnt : F → Nat
  | nil => 0
  | cons _ _ r => r.cnt + 1
def sz : F → Nat
  | nil => 0
  | cons _ k r => 1 + k.sz + r.sz
/-- Each node has as many kids as it says. -/
def ok : F → Prop
  | nil => True
  | cons n k r => n.kids = k.cnt ∧ k.ok ∧ r.ok
theorem flat_length (f : F) : f.flat.length = f.sz := by
  induction f with
  | nil => rfl
  | cons n k r hk hr => simp [flat, sz, hk, hr]; omega
theorem cnt_le (f : F) : f.cnt ≤ f.sz := by
  induction f with
  | nil => exact Nat.le_refl _
  | cons n k r hk hr => simp only [cnt, sz]; omega
end F
theorem kk_append (a b : List Nd) : kk (a ++ b) = kk a ++ kk b := by simp [kk]
theorem kk_cons (n : Nd) (l : List Nd) : kk (n :: l) = n.kids :: kk l := rfl
theorem scan_flat (f : F) : f.ok → ∀ R : List Int, scan (kk f.flat ++ R) f.cnt = some f.sz := by
  induction f with
  | nil => intro _ R; exact scan_zero _
  | cons n k r hk hr =>
    rintro ⟨h1, h2, h3⟩ R
    have a := hk h2 (kk r.flat ++ R)
    have b := hr h3 R
    simp only [F.flat, F.cnt, F.sz, kk_cons, kk_append, List.cons_append, List.append_assoc]
    rw [scan_cons, if_neg (by omega), h1, Int.toNat_natCast, Nat.add_comm r.cnt, scan_add, a]
    simp only [Option.bind_some]
    have hl : (kk k.flat).length = k.sz := by rw [length_kk, F.flat_length]
    rw [← hl, List.drop_left, b, hl]
    simp
    omega
theorem forest_of : ∀ (m : Nat) (ns : List Nd) (o t : Nat), ns.length ≤ m → scan (kk ns) o = some t → ∃ f : F, f.ok ∧ f.cnt = o ∧ f.flat = ns.take t := by
  intro m
  induction m with
  | zero =>
    intro ns o t hm h
    obtain rfl : ns = [] := List.length_eq_zero_iff.1 (by omega)
    cases o with
    | zero => exact ⟨.nil, trivial, rfl, by simp [F.flat]⟩
    | succ o => simp [kk, scan] at h
  | succ m ih =>
    intro ns o t hm h
    cases o with
    | zero =>
      rw [scan_zero] at h
      obtain rfl : 0 = t := Option.some.inj h
      exact ⟨.nil, trivial, rfl, by simp [F.flat]⟩
    | succ o =>
      cases ns with
      | nil => simp [kk, scan] at h
      | cons n ns =>
        rw [kk_cons, scan_cons] at h
        split at h
        · simp at h
        · rename_i hn
          rw [Nat.add_comm o, scan_add] at h
          cases ha : scan (kk ns) n.kids.toNat with
          | none => rw [ha] at h; simp at h
          | some a =>
            rw [ha] at h
            simp only [Option.bind_some] at h
            have e : (kk ns).drop a = kk (ns.drop a) := by simp [kk]
            rw [e] at h
            cases hb : scan (kk (ns.drop a)) o with
            | none => rw [hb] at h; simp at h
            | some b =>
              rw [hb] at h
              simp only [Option.map_some, Option.some.injEq] at h
              subst h
              obtain ⟨k, k1, k2, k3⟩ := ih ns _ _ (by simp at hm; omega) ha
              obtain ⟨r, r1, r2, r3⟩ := ih (ns.drop a) _ _ (by simp at hm ⊢; omega) hb
              refine ⟨.cons n k r, ⟨by omega, k1, r1⟩, by simp [F.cnt, r2], ?_⟩
              simp only [F.flat, k3, r3]
              rw [List.take_succ_cons, List.take_add]
theorem doc_of (ns : List Nd) (h : wholeB (kk ns) = true) : ∃ f : F, f.ok ∧ f.cnt = 1 ∧ f.flat = ns := by
  obtain ⟨f, h1, h2, h3⟩ := forest_of ns.length ns 1 _ (Nat.le_refl _) ((wholeB_iff _).1 h)
  exact ⟨f, h1, h2, by rw [h3, length_kk, List.take_length]⟩
theorem whole_flat (f : F) (h : f.ok) (hc : f.cnt = 1) : wholeB (kk f.flat) = true := by
  rw [wholeB_iff]
  have := scan_flat f h []
  rw [List.append_nil, hc] at this
  rw [this, length_kk, F.flat_length]
/-- A forest within a list. -/
theorem fin_flat (f : F) (h : f.ok) (pre post : List Nd) : fin (kk (pre ++ (f.flat ++ post))) pre.length f.cnt = ((pre.length + f.sz : Nat) : Int) := by
  have e : (kk (pre ++ (f.flat ++ post))).drop pre.length = kk f.flat ++ kk post := by
    rw [kk_append, kk_append, List.drop_append_of_le_length (by rw [length_kk]; omega), List.drop_eq_nil_of_le (by rw [length_kk]; omega), List.nil_append]
  unfold fin
  rw [e, scan_flat f h]
/-- Where the trees of a forest begin. -/
def startsF : F → Nat → List Nat
  | .nil, _ => []
  | .cons _ k r, p => p :: startsF r (p + 1 + k.sz)
theorem startsF_length (f : F) : ∀ p, (startsF f p).length = f.cnt := by
  induction f with
  | nil => intro p; rfl
  | cons n k r _ hr => intro p; simp [startsF, F.cnt, hr]
theorem starts_flat (f : F) : f.ok → ∀ pre post : List Nd, starts (kk (pre ++ (f.flat ++ post))) pre.length f.cnt = startsF f pre.length := by
  induction f with
  | nil => intro _ pre post; rfl
  | cons n k r _ hr =>
    rintro ⟨h1, h2, h3⟩ pre post
    have t : fin (kk (pre ++ ((F.cons n k .nil).flat ++ (r.flat ++ post)))) pre.length 1 = ((pre.length + (1 + k.sz) : Nat) : Int) := fin_flat (.cons n k .nil) ⟨h1, h2, trivial⟩ pre (r.flat ++ post)
    have e : pre ++ ((F.cons n k r).flat ++ post) = pre ++ ((F.cons n k .nil).flat ++ (r.flat ++ post)) := by simp [F.flat]
    have e2 : pre ++ ((F.cons n k .nil).flat ++ (r.flat ++ post)) = (pre ++ (F.cons n k .nil).flat) ++ (r.flat ++ post) := by simp
    have hl : (pre ++ (F.cons n k .nil).flat).length = pre.length + (1 + k.sz) := by simp [F.flat, F.flat_length]; omega
    rw [e]
    simp only [F.cnt, starts_succ, startsF]
    rw [t, Int.toNat_natCast, e2, ← hl, hr h3, hl]
    congr 2
    omega
theorem kids_flat (n : Nd) (k : F) (h1 : n.kids = k.cnt) (h2 : k.ok) (pre post : List Nd) : kidsI (kk (pre ++ (n :: (k.flat ++ post)))) pre.length = startsF k (pre.length + 1) := by
  have t : fin (kk (pre ++ ((F.cons n k .nil).flat ++ post))) pre.length 1 = ((pre.length + (1 + k.sz) : Nat) : Int) := fin_flat (.cons n k .nil) ⟨h1, h2, trivial⟩ pre post
  have e : pre ++ ((F.cons n k .nil).flat ++ post) = pre ++ (n :: (k.flat ++ post)) := by simp [F.flat]
  rw [e] at t
  have g : (kk (pre ++ (n :: (k.flat ++ post)))).getD pre.length 0 = n.kids := by
    rw [kk_get]
    simp [List.getD_eq_getElem?_getD]
  unfold kidsI
  rw [endI_nat, t, if_neg (by omega), Int.toNat_natCast, g, h1, Int.toNat_natCast]
  have := starts_flat k h2 (pre ++ [n]) post
  simpa using this

/-! ### Texts -/
def ownT (n : Nd) : List UInt8 := if n.kind = 42 then [32] else n.text.data.toList
/-- Flat. -/
def flatT : F → List UInt8
  | .nil => []
  | .cons n k r => ownT n ++ (flatT k ++ flatT r)
/-- What a node puts out ahead of its kids. -/
def preT (n : Nd) (ind : Nat) (fl : Bool) : List UInt8 := if n.kind = 42 then (if fl = true then [32] else 10 :: List.replicate ind 32) else n.text.data.toList
def addI (n : Nd) : Nat := if n.kind = 43 then n.num.toNat else 0
/-- The column behind a text. -/
def colA : List UInt8 → Nat → Nat
  | [], c => c
  | x :: s, c => colA s (if x = 10 then 0 else c + 1)
theorem colA_append (a b : List UInt8) : ∀ c, colA (a ++ b) c = colA b (colA a c) := by
  induction a with
  | nil => intro c; rfl
  | cons x a ih => intro c; exact ih _
theorem colA_le (a : List UInt8) : ∀ c, colA a c ≤ c + a.length := by
  induction a with
  | nil => intro c; exact Nat.le_refl _
  | cons x a ih =>
    intro c
    have := ih (if x = 10 then 0 else c + 1)
    simp only [colA, List.length_cons]
    split at this
    · rename_i h; rw [if_pos h]; omega
    · rename_i h; rw [if_neg h]; omega
theorem colA_plain (a : List UInt8) : (∀ x ∈ a, x ≠ 10) → ∀ c, colA a c = c + a.length := by
  induction a with
  | nil => intro _ c; rfl
  | cons x a ih =>
    intro h c
    simp only [colA, List.length_cons, if_neg (h x (by simp))]
    rw [ih (fun y hy => h y (by simp [hy]))]
    omega
def grp (n : Nd) (col s wd : Nat) : Bool := decide (n.kind = 44) && decide (col + s ≤ wd)
/-- Laid out. -/
def layT (wd : Nat) : F → Nat → Nat → Bool → List UInt8
  | .nil, _, _, _ => []
  | .cons n k r, ind, col, fl =>
    (preT n ind fl ++ layT wd k (ind + addI n) (colA (preT n ind fl) col) (fl || grp n col (flatT k).length wd)) ++
      layT wd r ind (colA (preT n ind fl ++ layT wd k (ind + addI n) (colA (preT n ind fl) col) (fl || grp n col (flatT k).length wd)) col) fl
theorem lay_flat (wd : Nat) (f : F) : ∀ ind col, layT wd f ind col true = flatT f := by
  induction f with
  | nil => intro ind col; rfl
  | cons n k r hk hr =>
    intro ind col
    simp only [layT, flatT, Bool.true_or, hk, hr]
    rw [List.append_assoc]
    congr 1
/-- One tree, then the others. -/
theorem lay_cons (wd : Nat) (n : Nd) (k r : F) (ind col : Nat) (fl : Bool) :
    layT wd (.cons n k r) ind col fl = layT wd (.cons n k .nil) ind col fl ++ layT wd r ind (colA (layT wd (.cons n k .nil) ind col fl) col) fl := by
  simp [layT]
theorem flat_cons (n : Nd) (k r : F) : flatT (.cons n k r) = flatT (.cons n k .nil) ++ flatT r := by simp [flatT]

/-! ### What may be -/
def plainB (s : ByteArray) : Bool := s.data.toList.all fun c => decide (32 ≤ c.toNat) && decide (c.toNat ≤ 126)
def okN (n : Nd) : Bool :=
  if n.kind = 41 then plainB n.text && decide (n.num = 0) && decide (n.kids = 0)
  else if n.kind = 42 then decide (n.text = ByteArray.empty) && decide (n.num = 0) && decide (n.kids = 0)
  else if n.kind = 43 then decide (n.text = ByteArray.empty) && decide (0 ≤ n.num) && decide (n.num ≤ 40) && decide (n.kids = 1)
  else if n.kind = 44 then decide (n.text = ByteArray.empty) && decide (n.num = 0) && decide (n.kids = 1)
  else if n.kind = 45 then decide (n.text = ByteArray.empty) && decide (n.num = 0)
  else false
/-- A document? -/
def docB (ns : List Nd) : Bool := decide (ns.length ≤ 4000) && wholeB (kk ns) && ns.all okN
theorem okN_empty (n : Nd) (h : okN n = true) (hk : n.kind ≠ 41) : n.text = ByteArray.empty := by
  unfold okN at h
  rw [if_neg hk] at h
  repeat' split at h
  all_goals simp at h
  all_goals first | exact h.1.1.1 | exact h.1.1 | exact h.1
theorem okN_plain (n : Nd) (h : okN n = true) : plainB n.text = true := by
  by_cases hk : n.kind = 41
  · unfold okN at h
    rw [if_pos hk, Bool.and_eq_true, Bool.and_eq_true] at h
    exact h.1.1
  · rw [okN_empty n h hk]; rfl
theorem okN_text (n : Nd) (h : okN n = true) : (∀ x ∈ n.text.data.toList, 32 ≤ x.toNat ∧ x.toNat ≤ 126) ∧ (n.kind ≠ 41 → n.text.data.toList = []) := by
  constructor
  · intro x hx
    have := okN_plain n h
    unfold plainB at this
    have := List.all_eq_true.1 this x hx
    simpa using this
  · intro hk
    rw [okN_empty n h hk]
    rfl
theorem okN_num (n : Nd) (h : okN n = true) : 0 ≤ n.num ∧ n.num ≤ 40 := by
  unfold okN at h
  repeat' split at h
  all_goals simp at h
  all_goals omega
theorem addI_le (n : Nd) (h : okN n = true) : addI n ≤ 40 := by
  have := okN_num n h
  unfold addI
  split <;> omega
/-- All nodes may be, and their texts aren't too long. -/
def F.fine : F → Prop
  | .nil => True
  | .cons n k r => okN n = true ∧ n.text.size ≤ 1000000 ∧ k.fine ∧ r.fine
theorem fine_flat (f : F) : (∀ n ∈ f.flat, okN n = true ∧ n.text.size ≤ 1000000) → f.fine := by
  induction f with
  | nil => intro _; trivial
  | cons n k r hk hr =>
    intro h
    simp only [F.flat, List.mem_cons, List.mem_append] at h
    exact ⟨(h n (.inl rfl)).1, (h n (.inl rfl)).2, hk fun x hx => h x (.inr (.inl hx)), hr fun x hx => h x (.inr (.inr hx))⟩
theorem pre_len (n : Nd) (ind : Nat) (fl : Bool) (h : n.text.size ≤ 1000000) (hi : ind ≤ 1000000) : (preT n ind fl).length ≤ 1000001 := by
  have e : n.text.data.toList.length = n.text.size := by simp
  unfold preT
  split
  · split
    · simp
    · simp; omega
  · omega
theorem lay_len (wd : Nat) (f : F) : f.fine → ∀ ind col fl, ind + 40 * f.sz ≤ 1000000 → (layT wd f ind col fl).length ≤ 1000001 * f.sz := by
  induction f with
  | nil => intro _ ind col fl _; simp [layT]
  | cons n k r hk hr =>
    rintro ⟨h1, h2, h3, h4⟩ ind col fl hi
    simp only [F.sz] at hi ⊢
    have a := addI_le n h1
    have p := pre_len n ind fl h2 (by omega)
    have q := hk h3 (ind + addI n) (colA (preT n ind fl) col) (fl || grp n col (flatT k).length wd) (by omega)
    have s := hr h4 ind (colA (preT n ind fl ++ layT wd k (ind + addI n) (colA (preT n ind fl) col) (fl || grp n col (flatT k).length wd)) col) fl (by omega)
    simp only [layT, List.length_append]
    omega
theorem own_len (n : Nd) (h : n.text.size ≤ 1000000) : (ownT n).length ≤ 1000001 := by
  have e : n.text.data.toList.length = n.text.size := by simp
  unfold ownT
  split
  · simp
  · omega
theorem flat_len (f : F) : f.fine → (flatT f).length ≤ 1000001 * f.sz := by
  induction f with
  | nil => intro _; simp [flatT]
  | cons n k r hk hr =>
    rintro ⟨h1, h2, h3, h4⟩
    have p := own_len n h2
    have q := hk h3
    have s := hr h4
    simp only [flatT, F.sz, List.length_append]
    omega

/-! ### The sizes, from the end on -/
/-- The sizes of the trees that begin at a place or later and whose parent stands ahead, the first one first. -/
def stk : List Nd → List Nat
  | [] => []
  | n :: l => ((ownT n).length + ((stk l).take n.kids.toNat).sum) :: (stk l).drop n.kids.toNat
def treeSz : F → List Nat
  | .nil => []
  | .cons n k r => ((ownT n).length + (flatT k).length) :: treeSz r
theorem treeSz_length (f : F) : (treeSz f).length = f.cnt := by
  induction f with
  | nil => rfl
  | cons n k r _ hr => simp [treeSz, F.cnt, hr]
theorem treeSz_sum (f : F) : (treeSz f).sum = (flatT f).length := by
  induction f with
  | nil => rfl
  | cons n k r _ hr => simp [treeSz, flatT, hr]; omega
theorem stk_flat (f : F) : f.ok → ∀ R : List Nd, stk (f.flat ++ R) = treeSz f ++ stk R := by
  induction f with
  | nil => intro _ R; rfl
  | cons n k r hk hr =>
    rintro ⟨h1, h2, h3⟩ R
    have a := hk h2 (r.flat ++ R)
    have b := hr h3 R
    simp only [F.flat, List.cons_append, List.append_assoc, stk, treeSz]
    rw [a, b, h1, Int.toNat_natCast, ← treeSz_length k, List.take_left, List.drop_left, treeSz_sum]
def szs : List Nd → List Nat
  | [] => []
  | n :: l => (stk (n :: l)).headD 0 :: szs l
theorem szs_length (l : List Nd) : (szs l).length = l.length := by
  induction l with
  | nil => rfl
  | cons n l ih => simp [szs, ih]
theorem szs_drop (l : List Nd) : ∀ i, (szs l).drop i = szs (l.drop i) := by
  induction l with
  | nil => intro i; simp [szs]
  | cons n l ih =>
    intro i
    cases i with
    | zero => rfl
    | succ i => simpa [szs] using ih i
theorem szs_get (l : List Nd) (i : Nat) (h : i < l.length) : (szs l).getD i 0 = (stk (l.drop i)).headD 0 := by
  have e := szs_drop l i
  have hd : (szs l).getD i 0 = ((szs l).drop i).headD 0 := by
    simp [List.getD_eq_getElem?_getD, List.headD_eq_head?_getD, List.head?_drop]
  rw [hd, e]
  cases hl : l.drop i with
  | nil => exact absurd (congrArg List.length hl) (by simp; omega)
  | cons n m => rfl
/-- The size of a tree within a list. -/
theorem szs_at (n : Nd) (k : F) (h1 : n.kids = k.cnt) (h2 : k.ok) (pre post : List Nd) : (szs (pre ++ (n :: (k.flat ++ post)))).getD pre.length 0 = (ownT n).length + (flatT k).length := by
  rw [szs_get _ _ (by simp), List.drop_left]
  have := stk_flat (.cons n k .nil) ⟨h1, h2, trivial⟩ post
  simp only [F.flat, List.append_nil, List.cons_append, treeSz] at this
  rw [this]
  rfl
/-- Behind each place of a document so many trees are open. -/
theorem stk_length : ∀ (l : List Nd) (o : Nat), scan (kk l) o = some l.length → (stk l).length = o := by
  intro l
  induction l with
  | nil => intro o h; cases o with
    | zero => rfl
    | succ o => simp [kk, scan] at h
  | cons n l ih =>
    intro o h
    cases o with
    | zero => rw [scan_zero] at h; simp at h
    | succ o =>
      rw [kk_cons, scan_cons] at h
      split at h
      · simp at h
      · cases hs : scan (kk l) (o + n.kids.toNat) with
        | none => rw [hs] at h; simp at h
        | some m =>
          rw [hs] at h
          simp at h
          subst h
          have := ih _ hs
          simp [stk, this]
theorem scan_drop (l : List Nd) (h : wholeB (kk l) = true) (i : Nat) (hi : i < l.length) : ∃ o, scan (kk (l.drop i)) (o + 1) = some (l.drop i).length := by
  obtain ⟨o, ho⟩ := fin_pass (kk l) i 0 1 (kk l).length (whole_fin _ h) (by rw [length_kk]; omega)
  rw [Nat.zero_add] at ho
  refine ⟨o, ?_⟩
  unfold fin at ho
  have e : (kk l).drop i = kk (l.drop i) := by simp [kk]
  rw [e] at ho
  cases hs : scan (kk (l.drop i)) (o + 1) with
  | none => rw [hs] at ho; simp at ho
  | some m =>
    rw [hs] at ho
    simp [length_kk] at ho ⊢
    omega
/-- The kids of a node lie on the top. -/
theorem stk_kids (l : List Nd) (h : wholeB (kk l) = true) (i : Nat) (hi : i < l.length) : (l.getD i default).kids.toNat ≤ (stk (l.drop (i + 1))).length ∧ 0 ≤ (l.getD i default).kids := by
  obtain ⟨o, ho⟩ := scan_drop l h i hi
  have e : l.drop i = l.getD i default :: l.drop (i + 1) := by
    rw [List.drop_eq_getElem_cons hi, List.getD_eq_getElem?_getD, List.getElem?_eq_getElem hi]
    rfl
  rw [e, kk_cons, scan_cons] at ho
  split at ho
  · simp at ho
  · cases hs : scan (kk (l.drop (i + 1))) (o + (l.getD i default).kids.toNat) with
    | none => rw [hs] at ho; simp at ho
    | some m =>
      rw [hs] at ho
      simp at ho
      have := stk_length (l.drop (i + 1)) _ (by rw [hs, ho, List.length_drop])
      omega
theorem stk_sum_len : ∀ l : List Nd, (∀ n ∈ l, n.text.size ≤ 1000000) → (stk l).sum ≤ 1000001 * l.length ∧ (stk l).length ≤ l.length := by
  intro l
  induction l with
  | nil => intro _; exact ⟨Nat.le_refl _, Nat.le_refl _⟩
  | cons n l ih =>
    intro h
    obtain ⟨i1, i2⟩ := ih fun x hx => h x (by simp [hx])
    have p := own_len n (h n (by simp))
    have e : (stk l).sum = ((stk l).take n.kids.toNat).sum + ((stk l).drop n.kids.toNat).sum := by
      rw [← List.sum_append, List.take_append_drop]
    simp only [stk, List.sum_cons, List.length_cons, List.length_drop]
    omega
end Go.Proofs.Ytbpenjdpalhmaaa
