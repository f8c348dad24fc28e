/- Trees stored as lists of nodes in preorder, as plain mathematics: only the nodes' numbers of kids. No Go here. -/
namespace Go.Proofs.TreeMath

/-- How many nodes are gone through until no tree is open any more; none if a node has no number of kids, or the nodes give out. -/
def scan : List Int → Nat → Option Nat
  | _, 0 => some 0
  | [], _ + 1 => none
  | k :: ks, o + 1 => if k < 0 then none else (scan ks (o + k.toNat)).map (· + 1)

theorem scan_zero (ks : List Int) : scan ks 0 = some 0 := by cases ks <;> rfl
theorem scan_nil (o : Nat) : scan [] (o + 1) = none := rfl
theorem scan_cons (k : Int) (ks : List Int) (o : Nat) : scan (k :: ks) (o + 1) = if k < 0 then none else (scan ks (o + k.toNat)).map (· + 1) := rfl

theorem scan_le : ∀ (ks : List Int) (o n : Nat), scan ks o = some n → o ≤ n ∧ n ≤ ks.length := by
  intro ks
  induction ks with
  | nil => intro o n h; cases o with
    | zero => simp [scan] at h; omega
    | succ o => simp [scan] at h
  | cons k ks ih =>
    intro o n h
    cases o with
    | zero => simp [scan] at h; omega
    | succ o =>
      rw [scan_cons] at h
      split at h
      · simp at h
      · cases hs : scan ks (o + k.toNat) with
        | none => rw [hs] at h; simp at h
        | some m =>
          rw [hs] at h
          simp at h
          have := ih _ _ hs
          simp
          omega

theorem scan_add : ∀ (ks : List Int) (a b : Nat), scan ks (a + b) = (scan ks a).bind fun n => (scan (ks.drop n) b).map (n + ·) := by
  intro ks
  induction ks with
  | nil =>
    intro a b
    cases a with
    | zero => cases b <;> simp [scan]
    | succ a => simp [scan, Nat.succ_add]
  | cons k ks ih =>
    intro a b
    cases a with
    | zero => cases h : scan (k :: ks) b <;> simp [scan_zero, h]
    | succ a =>
      rw [Nat.succ_add, scan_cons, scan_cons]
      split
      · simp
      · rw [show a + b + k.toNat = (a + k.toNat) + b by omega, ih]
        cases h : scan ks (a + k.toNat) with
        | none => simp
        | some n =>
          simp only [Option.bind_some, Option.map_some, List.drop_succ_cons]
          cases scan (ks.drop n) b <;> simp
          omega

theorem scan_append : ∀ (ks rs : List Int) (o n : Nat), scan ks o = some n → scan (ks ++ rs) o = some n := by
  intro ks
  induction ks with
  | nil => intro rs o n h; cases o with
    | zero => simpa [scan_zero] using h
    | succ o => simp [scan] at h
  | cons k ks ih =>
    intro rs o n h
    cases o with
    | zero => simpa [scan_zero] using h
    | succ o =>
      rw [List.cons_append, scan_cons]
      rw [scan_cons] at h
      split at h
      · simp at h
      · rename_i hk
        rw [if_neg hk]
        cases hs : scan ks (o + k.toNat) with
        | none => rw [hs] at h; simp at h
        | some m => rw [hs] at h; rw [ih rs _ _ hs]; exact h

theorem scan_take : ∀ (ks : List Int) (o n : Nat), scan ks o = some n → scan (ks.take n) o = some n := by
  intro ks
  induction ks with
  | nil => intro o n h; cases o with
    | zero => simpa [scan_zero] using h
    | succ o => simp [scan] at h
  | cons k ks ih =>
    intro o n h
    cases o with
    | zero => simp [scan_zero] at h; subst h; simp [scan]
    | succ o =>
      rw [scan_cons] at h
      split at h
      · simp at h
      · rename_i hk
        cases hs : scan ks (o + k.toNat) with
        | none => rw [hs] at h; simp at h
        | some m =>
          rw [hs] at h
          simp at h
          subst h
          rw [List.take_succ_cons, scan_cons, if_neg hk, ih _ _ hs]
          rfl

/-- Where one is when o trees that begin at m have been gone through; -1. -/
def fin (ks : List Int) (m o : Nat) : Int :=
  match scan (ks.drop m) o with
  | some n => ((m + n : Nat) : Int)
  | none => -1

theorem fin_zero (ks : List Int) (m : Nat) : fin ks m 0 = m := by simp [fin, scan_zero]
theorem fin_range (ks : List Int) (m o : Nat) (hm : m ≤ ks.length) : fin ks m o = -1 ∨ ((m + o : Nat) : Int) ≤ fin ks m o ∧ fin ks m o ≤ ks.length := by
  unfold fin
  cases h : scan (ks.drop m) o with
  | none => exact .inl rfl
  | some n =>
    have := scan_le _ _ _ h
    simp at this
    right
    simp
    omega
theorem fin_out (ks : List Int) (m o : Nat) (hm : ks.length ≤ m) : fin ks m (o + 1) = -1 := by
  unfold fin
  rw [List.drop_eq_nil_of_le hm]
  rfl
theorem drop_get (ks : List Int) (m : Nat) (hm : m < ks.length) : ks.drop m = ks.getD m 0 :: ks.drop (m + 1) := by
  rw [List.drop_eq_getElem_cons hm, List.getD_eq_getElem?_getD, List.getElem?_eq_getElem hm]
  rfl
theorem fin_neg (ks : List Int) (m o : Nat) (hm : m < ks.length) (hk : ks.getD m 0 < 0) : fin ks m (o + 1) = -1 := by
  unfold fin
  rw [drop_get ks m hm, scan_cons, if_pos hk]
theorem fin_step (ks : List Int) (m o : Nat) (hm : m < ks.length) (hk : 0 ≤ ks.getD m 0) : fin ks m (o + 1) = fin ks (m + 1) (o + (ks.getD m 0).toNat) := by
  unfold fin
  rw [drop_get ks m hm, scan_cons, if_neg (by omega)]
  cases scan (ks.drop (m + 1)) (o + (ks.getD m 0).toNat) <;> simp
  omega
theorem fin_many (ks : List Int) (m o : Nat) (hm : m ≤ ks.length) (h : (ks.length : Int) < m + o) : fin ks m o = -1 := by
  rcases fin_range ks m o hm with h1 | h1
  · exact h1
  · omega
theorem fin_succ (ks : List Int) (m r : Nat) : fin ks m (r + 1) = if fin ks m 1 < 0 then -1 else fin ks (fin ks m 1).toNat r := by
  unfold fin
  rw [Nat.add_comm r 1, scan_add]
  cases h : scan (ks.drop m) 1 with
  | none => simp
  | some n =>
    simp only [Option.bind_some, List.drop_drop]
    rw [if_neg (by omega), Int.toNat_natCast]
    cases scan (ks.drop (m + n)) r <;> simp
    omega
theorem fin_add (ks : List Int) (m a b : Nat) : fin ks m (a + b) = if fin ks m a < 0 then -1 else fin ks (fin ks m a).toNat b := by
  unfold fin
  rw [scan_add]
  cases h : scan (ks.drop m) a with
  | none => simp
  | some n =>
    simp only [Option.bind_some, List.drop_drop]
    rw [if_neg (by omega), Int.toNat_natCast]
    cases scan (ks.drop (m + n)) b <;> simp
    omega

/-- Where the tree that begins at an index ends; -1. -/
def endI (ks : List Int) (i : Int) : Int := if i < 0 then -1 else fin ks i.toNat 1
theorem endI_nat (ks : List Int) (m : Nat) : endI ks (m : Int) = fin ks m 1 := by simp [endI]; omega
theorem endI_range (ks : List Int) (i : Int) : endI ks i = -1 ∨ (0 ≤ i ∧ i + 1 ≤ endI ks i ∧ endI ks i ≤ ks.length) := by
  unfold endI
  split
  · exact .inl rfl
  · by_cases h : i.toNat < ks.length
    · rcases fin_range ks i.toNat 1 (by omega) with h1 | h1
      · exact .inl h1
      · right; omega
    · exact .inl (fin_out ks _ 0 (by omega))
theorem endI_out (ks : List Int) (i : Int) (h : i < 0 ∨ (ks.length : Int) ≤ i) : endI ks i = -1 := by
  unfold endI
  split
  · rfl
  · exact fin_out ks _ 0 (by omega)
/-- Exactly one tree? -/
def wholeB (ks : List Int) : Bool := endI ks 0 == (ks.length : Int)
theorem wholeB_iff (ks : List Int) : wholeB ks = true ↔ scan ks 1 = some ks.length := by
  simp only [wholeB, endI, fin]
  cases h : scan ks 1 with
  | none => simp [h]; try omega
  | some n => simp [h]; try omega
theorem wholeB_pos (ks : List Int) (h : wholeB ks = true) : 0 < ks.length := by
  have := scan_le _ _ _ ((wholeB_iff ks).1 h)
  omega
theorem wholeB_nil : wholeB [] = false := by decide

/-- Where each of r trees begins, the first one of which begins at m. -/
def starts (ks : List Int) : Nat → Nat → List Nat
  | _, 0 => []
  | m, r + 1 => m :: starts ks (fin ks m 1).toNat r
theorem starts_length (ks : List Int) : ∀ (r m : Nat), (starts ks m r).length = r := by
  intro r
  induction r with
  | zero => intro m; rfl
  | succ r ih => intro m; simp [starts, ih]
/-- Where the kids' trees begin. -/
def kidsI (ks : List Int) (i : Int) : List Nat := if endI ks i < 0 then [] else starts ks (i.toNat + 1) (ks.getD i.toNat 0).toNat
theorem kid_nonneg (ks : List Int) (m : Nat) (h : 0 ≤ fin ks m 1) : m < ks.length ∧ 0 ≤ ks.getD m 0 := by
  have hm : m < ks.length := by
    by_cases hm : m < ks.length
    · exact hm
    · have h9 : fin ks m 1 = -1 := fin_out ks m 0 (by omega)
      omega
  refine ⟨hm, ?_⟩
  by_cases hk : 0 ≤ ks.getD m 0
  · exact hk
  · have h9 : fin ks m 1 = -1 := fin_neg ks m 0 hm (by omega)
    omega
theorem fin_kids (ks : List Int) (m : Nat) (h : 0 ≤ fin ks m 1) : fin ks m 1 = fin ks (m + 1) (ks.getD m 0).toNat := by
  obtain ⟨h1, h2⟩ := kid_nonneg ks m h
  have := fin_step ks m 0 h1 h2
  simpa using this
theorem kid_few (ks : List Int) (m : Nat) (h : 0 ≤ fin ks m 1) : (ks.getD m 0).toNat + m + 1 ≤ ks.length := by
  have h1 := fin_kids ks m h
  have h2 := kid_nonneg ks m h
  rcases fin_range ks (m + 1) (ks.getD m 0).toNat (by omega) with h3 | h3 <;> omega

/-! ### The parts of a tree -/
theorem starts_succ (ks : List Int) (m r : Nat) : starts ks m (r + 1) = m :: starts ks (fin ks m 1).toNat r := rfl
theorem fin_first (ks : List Int) (m r : Nat) (h : 0 ≤ fin ks m (r + 1)) : 0 ≤ fin ks m 1 ∧ fin ks m (r + 1) = fin ks (fin ks m 1).toNat r := by
  have h1 := fin_succ ks m r
  split at h1
  · omega
  · exact ⟨by omega, h1⟩
theorem fin_le (ks : List Int) (m o : Nat) (h : 0 ≤ fin ks m o) : ((m + o : Nat) : Int) ≤ fin ks m o := by
  unfold fin at h ⊢
  cases hs : scan (ks.drop m) o with
  | none => rw [hs] at h; simp at h
  | some n => have := scan_le _ _ _ hs; simp; omega
theorem fin_len (ks : List Int) (m o : Nat) (hm : m ≤ ks.length) : fin ks m o ≤ ks.length := by
  rcases fin_range ks m o hm with h | h <;> omega
theorem sub_parts {α : Type} (l : List α) (ks : List Int) : ∀ (r m : Nat), 0 ≤ fin ks m r →
    (l.drop m).take ((fin ks m r).toNat - m) = ((starts ks m r).map fun s => (l.drop s).take ((fin ks s 1).toNat - s)).flatten := by
  intro r
  induction r with
  | zero => intro m h; simp [fin_zero, starts]
  | succ r ih =>
    intro m h
    obtain ⟨h1, h2⟩ := fin_first ks m r h
    have h3 := fin_le ks m 1 h1
    have h4 := ih (fin ks m 1).toNat (by omega)
    have h5 := fin_le ks (fin ks m 1).toNat r (by omega)
    rw [starts_succ, List.map_cons, List.flatten_cons, ← h4, h2]
    have e : (fin ks (fin ks m 1).toNat r).toNat - m = ((fin ks m 1).toNat - m) + ((fin ks (fin ks m 1).toNat r).toNat - (fin ks m 1).toNat) := by omega
    rw [e, List.take_add, List.drop_drop]
    congr 2
    congr 1
    omega
theorem sub_whole (ks : List Int) (m : Nat) (h : 0 ≤ fin ks m 1) : wholeB ((ks.drop m).take ((fin ks m 1).toNat - m)) = true := by
  rw [wholeB_iff]
  have hm := kid_nonneg ks m h
  have h2 := fin_len ks m 1 (by omega)
  unfold fin at h h2 ⊢
  cases hs : scan (ks.drop m) 1 with
  | none => rw [hs] at h; simp at h
  | some n =>
    rw [hs] at h2
    simp only at h2 ⊢
    have h3 := scan_le _ _ _ hs
    rw [List.length_drop] at h3
    have e : ((m + n : Nat) : Int).toNat - m = n := by omega
    rw [e, scan_take _ _ _ hs]
    simp
    omega
theorem starts_get (ks : List Int) : ∀ (r m j : Nat), j < r → 0 ≤ fin ks m r → ((starts ks m r).getD j 0 : Int) = fin ks m j ∧ 0 ≤ fin ks m (j + 1) := by
  intro r
  induction r with
  | zero => intro m j h; omega
  | succ r ih =>
    intro m j hj h
    obtain ⟨h1, h2⟩ := fin_first ks m r h
    rw [starts_succ]
    cases j with
    | zero => exact ⟨by simp [fin_zero], h1⟩
    | succ j =>
      have := ih (fin ks m 1).toNat j (by omega) (by omega)
      have e1 := fin_succ ks m j
      have e2 := fin_succ ks m (j + 1)
      rw [if_neg (by omega)] at e1 e2
      rw [e1, e2]
      simpa using this

/-! ### Trees put together -/
/-- Where each of some lists, laid one after the other, begins. -/
def offs {α : Type} : Nat → List (List α) → List Nat
  | _, [] => []
  | p, t :: ts => p :: offs (p + t.length) ts
theorem fin_tree (P T R : List Int) (h : wholeB T = true) : fin (P ++ (T ++ R)) P.length 1 = ((P.length + T.length : Nat) : Int) := by
  unfold fin
  rw [List.drop_left, scan_append T R 1 _ ((wholeB_iff T).1 h)]
theorem fin_forest : ∀ (Ts : List (List Int)) (P R : List Int), (∀ t ∈ Ts, wholeB t = true) →
    fin (P ++ (Ts.flatten ++ R)) P.length Ts.length = ((P.length + Ts.flatten.length : Nat) : Int) ∧ starts (P ++ (Ts.flatten ++ R)) P.length Ts.length = offs P.length Ts := by
  intro Ts
  induction Ts with
  | nil => intro P R _; exact ⟨by simp [fin_zero], rfl⟩
  | cons t ts ih =>
    intro P R h
    have ht := h t (by simp)
    obtain ⟨i1, i2⟩ := ih (P ++ t) R fun x hx => h x (by simp [hx])
    have e := fin_tree P t (ts.flatten ++ R) ht
    have e1 : P ++ ((t :: ts).flatten ++ R) = P ++ (t ++ (ts.flatten ++ R)) := by simp
    have e2 : P ++ t ++ (ts.flatten ++ R) = P ++ (t ++ (ts.flatten ++ R)) := by simp
    rw [e2, List.length_append] at i1 i2
    rw [e1, List.length_cons, starts_succ, e, fin_succ, e, if_neg (by omega), Int.toNat_natCast, i1, i2]
    exact ⟨by simp; omega, rfl⟩
theorem offs_length {α : Type} : ∀ (Ts : List (List α)) (p : Nat), (offs p Ts).length = Ts.length := by
  intro Ts
  induction Ts with
  | nil => intro p; rfl
  | cons t ts ih => intro p; simp [offs, ih]
theorem offs_map {α β : Type} (f : α → β) : ∀ (Ts : List (List α)) (p : Nat), offs p (Ts.map (List.map f)) = offs p Ts := by
  intro Ts
  induction Ts with
  | nil => intro p; rfl
  | cons t ts ih => intro p; simp [offs, ih]
theorem offs_get {α : Type} : ∀ (Ts : List (List α)) (P R : List α) (j : Nat), j < Ts.length →
    ((P ++ (Ts.flatten ++ R)).drop ((offs P.length Ts).getD j 0)).take (Ts.getD j []).length = Ts.getD j [] ∧ ∃ A B, P ++ (Ts.flatten ++ R) = A ++ (Ts.getD j [] ++ B) ∧ A.length = (offs P.length Ts).getD j 0 := by
  intro Ts
  induction Ts with
  | nil => intro P R j h; simp at h
  | cons t ts ih =>
    intro P R j h
    cases j with
    | zero =>
      have e1 : P ++ ((t :: ts).flatten ++ R) = P ++ (t ++ (ts.flatten ++ R)) := by simp
      exact ⟨by simp [offs], P, ts.flatten ++ R, by simp, by simp [offs]⟩
    | succ j =>
      have i := ih (P ++ t) R j (by simpa using h)
      have e2 : P ++ t ++ (ts.flatten ++ R) = P ++ ((t :: ts).flatten ++ R) := by simp
      rw [e2, List.length_append] at i
      simpa [offs] using i
theorem whole_make (Ts : List (List Int)) (h : ∀ t ∈ Ts, wholeB t = true) : wholeB ((Ts.length : Int) :: Ts.flatten) = true ∧ kidsI ((Ts.length : Int) :: Ts.flatten) 0 = offs 1 Ts := by
  obtain ⟨h1, h2⟩ := fin_forest Ts [(Ts.length : Int)] [] h
  simp only [List.append_nil, List.cons_append, List.nil_append, List.length_singleton] at h1 h2
  have h3 : fin ((Ts.length : Int) :: Ts.flatten) 0 1 = ((1 + Ts.flatten.length : Nat) : Int) := by
    rw [fin_step _ 0 0 (by simp) (by simp)]
    simpa using h1
  constructor
  · simp [wholeB, endI, h3]; omega
  · unfold kidsI
    rw [show endI ((Ts.length : Int) :: Ts.flatten) 0 = fin ((Ts.length : Int) :: Ts.flatten) 0 1 from rfl, h3, if_neg (by omega)]
    simpa using h2
/-- A whole tree put in the place of a whole tree. -/
theorem scan_put : ∀ (A T U B : List Int) (o : Nat), wholeB T = true → wholeB U = true →
    (scan (A ++ (T ++ B)) o = some (A ++ (T ++ B)).length ↔ scan (A ++ (U ++ B)) o = some (A ++ (U ++ B)).length) := by
  intro A
  induction A with
  | nil =>
    intro T U B o hT hU
    have pT := wholeB_pos T hT
    have pU := wholeB_pos U hU
    cases o with
    | zero => simp [scan_zero]; omega
    | succ o =>
      have key : ∀ X : List Int, wholeB X = true → (scan (X ++ B) (o + 1) = some (X ++ B).length ↔ scan B o = some B.length) := by
        intro X hX
        rw [Nat.add_comm o 1, scan_add, scan_append X B 1 _ ((wholeB_iff X).1 hX)]
        simp only [Option.bind_some, List.drop_left]
        cases scan B o <;> simp
      simp only [List.nil_append]
      rw [key T hT, key U hU]
  | cons a A ih =>
    intro T U B o hT hU
    cases o with
    | zero => simp [scan_zero]
    | succ o =>
      simp only [List.cons_append, scan_cons]
      split
      · simp
      · have := ih T U B (o + a.toNat) hT hU
        simp only [List.length_cons]
        rw [show (Option.map (· + 1) (scan (A ++ (T ++ B)) (o + a.toNat)) = some ((A ++ (T ++ B)).length + 1)) ↔ scan (A ++ (T ++ B)) (o + a.toNat) = some (A ++ (T ++ B)).length by cases scan (A ++ (T ++ B)) (o + a.toNat) <;> simp]
        rw [show (Option.map (· + 1) (scan (A ++ (U ++ B)) (o + a.toNat)) = some ((A ++ (U ++ B)).length + 1)) ↔ scan (A ++ (U ++ B)) (o + a.toNat) = some (A ++ (U ++ B)).length by cases scan (A ++ (U ++ B)) (o + a.toNat) <;> simp]
        exact this
theorem whole_put (A T U B : List Int) (hT : wholeB T = true) (hU : wholeB U = true) : wholeB (A ++ (T ++ B)) = wholeB (A ++ (U ++ B)) := by
  rw [Bool.eq_iff_iff, wholeB_iff, wholeB_iff]
  exact scan_put A T U B 1 hT hU
/-! ### How deep -/
def trim (o : Nat) (p : List Nat) : List Nat := p.dropWhile fun x => decide (o < x)
theorem trim_trim (o u : Nat) (h : o ≤ u) (p : List Nat) : trim o (trim u p) = trim o p := by
  induction p with
  | nil => rfl
  | cons x p ih =>
    unfold trim at ih ⊢
    by_cases hx : u < x
    · simp only [List.dropWhile_cons, decide_eq_true_eq, hx, if_true, show o < x by omega]
      exact ih
    · simp only [List.dropWhile_cons, decide_eq_true_eq, hx, if_false]
theorem trim_head (o u : Nat) (h : o ≤ u) (q : List Nat) : trim u (o :: q) = o :: q := by
  unfold trim
  simp [show ¬ u < o by omega]
theorem trim_past (o : Nat) (q : List Nat) : trim o ((o + 1) :: q) = trim o q := by
  unfold trim
  simp
/-- The walk with a path: for each node on it how many trees were open there (the last one first); the length of the longest path. -/
def dl : List Int → Nat → List Nat → Nat → Nat
  | [], _, _, d => d
  | _ :: _, 0, _, d => d
  | k :: ks, o + 1, p, d => dl ks (o + k.toNat) ((o + 1) :: trim (o + 1) p) (max d (((o + 1) :: trim (o + 1) p).length))
theorem dl_zero (ks : List Int) (p : List Nat) (d : Nat) : dl ks 0 p d = d := by cases ks <;> rfl
theorem dl_trim (R : List Int) (o : Nat) (p q : List Nat) (d : Nat) (h : trim o q = trim o p) : dl R o q d = dl R o p d := by
  cases R with
  | nil => rfl
  | cons k R =>
    cases o with
    | zero => rfl
    | succ o => rw [dl, dl, h]
/-- The depth. -/
def deepI (ks : List Int) : Nat := if wholeB ks then dl ks 1 [] 0 else 0
theorem whole_parts (T : List Int) (h : wholeB T = true) : ∃ (k : Int) (Ts : List (List Int)), T = k :: Ts.flatten ∧ 0 ≤ k ∧ k.toNat = Ts.length ∧ (∀ t ∈ Ts, wholeB t = true) ∧
    Ts = (starts T 1 k.toNat).map (fun s => (T.drop s).take ((fin T s 1).toNat - s)) ∧ k = T.getD 0 0 := by
  have hp := wholeB_pos T h
  have h0 : fin T 0 1 = T.length := by simpa [wholeB, endI] using h
  have h1 := kid_nonneg T 0 (by omega)
  have h2 := fin_kids T 0 (by omega)
  rw [Nat.zero_add] at h2
  have h3 := sub_parts T T (T.getD 0 0).toNat 1 (by omega)
  have h4 : fin T 1 (T.getD 0 0).toNat = T.length := by omega
  refine ⟨T.getD 0 0, (starts T 1 (T.getD 0 0).toNat).map (fun s => (T.drop s).take ((fin T s 1).toNat - s)), ?_, h1.2, by simp [starts_length], ?_, rfl, rfl⟩
  · rw [← h3, h4]
    have e := drop_get T 0 hp
    simp only [List.drop_zero, Nat.zero_add] at e
    rw [List.take_of_length_le (by simp)]
    exact e
  · intro t ht
    obtain ⟨s, hs, rfl⟩ := List.mem_map.1 ht
    obtain ⟨j, hj, hg⟩ := List.getElem_of_mem hs
    have := (starts_get T (T.getD 0 0).toNat 1 j (by simpa [starts_length] using hj) (by omega))
    rw [List.getD_eq_getElem?_getD, List.getElem?_eq_getElem hj, hg] at this
    simp only [Option.getD_some] at this
    have h5 := fin_succ T 1 j
    have h6 := fin_add T 1 j 1
    rw [if_neg (by omega), ← this.1, Int.toNat_natCast] at h6
    exact sub_whole T s (by omega)
def mx (d : Nat) (a : Nat) (Ts : List (List Int)) : Nat := Ts.foldl (fun d T => max d (a + deepI T)) d
theorem mx_cons (d a : Nat) (t : List Int) (ts : List (List Int)) : mx d a (t :: ts) = mx (max d (a + deepI t)) a ts := rfl
theorem mx_max (Ts : List (List Int)) : ∀ (d a c : Nat), mx (max d (c + a)) (c + a) Ts = max d (c + mx a a Ts) := by
  induction Ts with
  | nil => intro d a c; rfl
  | cons t ts ih =>
    intro d a c
    rw [mx_cons, mx_cons]
    have h : ∀ x : Nat, a ≤ x → mx (max d (c + x)) (c + a) ts = max d (c + mx x a ts) := by
      clear ih
      induction ts with
      | nil => intro x _; rfl
      | cons u us iu =>
        intro x hx
        rw [mx_cons, mx_cons, ← iu (max x (a + deepI u)) (by omega)]
        congr 1
        omega
    have := h (max a (a + deepI t)) (by omega)
    rw [← this]
    congr 1
    omega
theorem forest_run (n : Nat) (ih : ∀ T : List Int, T.length ≤ n → wholeB T = true → ∀ (R : List Int) (o : Nat) (p : List Nat) (d : Nat), dl (T ++ R) (o + 1) p d = dl R o p (max d ((trim (o + 1) p).length + deepI T))) :
    ∀ (Ts : List (List Int)), (∀ t ∈ Ts, wholeB t = true ∧ t.length ≤ n) → ∀ (R : List Int) (o : Nat) (q : List Nat) (d : Nat), (∀ j, 1 ≤ j → trim (o + j) q = q) →
      dl (Ts.flatten ++ R) (o + Ts.length) q d = dl R o q (mx d q.length Ts) := by
  intro Ts
  induction Ts with
  | nil => intro _ R o q d _; rfl
  | cons t ts it =>
    intro ht R o q d hq
    obtain ⟨h1, h2⟩ := ht t (by simp)
    rw [List.flatten_cons, List.append_assoc, List.length_cons, ← Nat.add_assoc, ih t h2 h1, it (fun x hx => ht x (by simp [hx])) R o q _ hq, mx_cons, show o + ts.length + 1 = o + (ts.length + 1) by omega, hq _ (by omega)]
theorem deepI_some (k : Int) (Ts : List (List Int)) (n : Nat) (hn : Ts.flatten.length ≤ n) (hk : k.toNat = Ts.length) (hw : wholeB (k :: Ts.flatten) = true) (hT : ∀ t ∈ Ts, wholeB t = true)
    (ih : ∀ T : List Int, T.length ≤ n → wholeB T = true → ∀ (R : List Int) (o : Nat) (p : List Nat) (d : Nat), dl (T ++ R) (o + 1) p d = dl R o p (max d ((trim (o + 1) p).length + deepI T))) :
    deepI (k :: Ts.flatten) = mx 1 1 Ts ∧ ∀ (R : List Int) (o : Nat) (p : List Nat) (d : Nat), dl (k :: Ts.flatten ++ R) (o + 1) p d = dl R o p (max d ((trim (o + 1) p).length + mx 1 1 Ts)) := by
  have hs : ∀ t ∈ Ts, wholeB t = true ∧ t.length ≤ n := fun t ht => ⟨hT t ht, by
    have := (List.sublist_flatten_of_mem ht).length_le
    omega⟩
  have key : ∀ (R : List Int) (o : Nat) (p : List Nat) (d : Nat), dl (k :: Ts.flatten ++ R) (o + 1) p d = dl R o p (max d ((trim (o + 1) p).length + mx 1 1 Ts)) := by
    intro R o p d
    rw [List.cons_append, dl, hk, forest_run n ih Ts hs R o _ _ (fun j hj => trim_head _ _ (by omega) _), List.length_cons, mx_max]
    refine dl_trim R o _ _ _ ?_
    rw [trim_past, trim_trim _ _ (by omega)]
  refine ⟨?_, key⟩
  have := key [] 0 [] 0
  unfold deepI
  rw [if_pos hw]
  simpa [dl, trim] using this
theorem tree_run : ∀ (n : Nat) (T : List Int), T.length ≤ n → wholeB T = true → ∀ (R : List Int) (o : Nat) (p : List Nat) (d : Nat), dl (T ++ R) (o + 1) p d = dl R o p (max d ((trim (o + 1) p).length + deepI T)) := by
  intro n
  induction n with
  | zero => intro T hT hw; have := wholeB_pos T hw; omega
  | succ n ih =>
    intro T hT hw
    obtain ⟨k, Ts, rfl, h0, hk, ht, _⟩ := whole_parts T hw
    obtain ⟨h1, h2⟩ := deepI_some k Ts n (by simpa using hT) hk hw ht ih
    rw [h1]
    exact h2
theorem deepI_parts (k : Int) (Ts : List (List Int)) (hk : k.toNat = Ts.length) (hw : wholeB (k :: Ts.flatten) = true) (hT : ∀ t ∈ Ts, wholeB t = true) : deepI (k :: Ts.flatten) = mx 1 1 Ts :=
  (deepI_some k Ts _ (Nat.le_refl _) hk hw hT (tree_run _)).1
theorem dl_le : ∀ (ks : List Int) (o : Nat) (p : List Nat) (d : Nat), dl ks o p d ≤ max d (p.length + ks.length) := by
  intro ks
  induction ks with
  | nil => intro o p d; simp [dl]; omega
  | cons k ks ih =>
    intro o p d
    cases o with
    | zero => simp [dl]; omega
    | succ o =>
      rw [dl]
      refine Nat.le_trans (ih _ _ _) ?_
      have h : (trim (o + 1) p).length ≤ p.length := (List.dropWhile_sublist _).length_le
      simp
      omega
theorem deepI_le (ks : List Int) : deepI ks ≤ ks.length := by
  unfold deepI
  split
  · have := dl_le ks 1 [] 0
    simpa using this
  · omega

/-! ### Whose kid -/
/-- p is the parent of the node at i. -/
def IsPar (ks : List Int) (p i : Nat) : Prop := p < i ∧ ∃ b : Nat, (b : Int) < ks.getD p 0 ∧ fin ks (p + 1) b = i
theorem fin_pass (ks : List Int) : ∀ (d m b e : Nat), fin ks m b = (e : Int) → m + d < e → ∃ o, fin ks (m + d) (o + 1) = (e : Int) := by
  intro d
  induction d with
  | zero =>
    intro m b e h hd
    cases b with
    | zero => rw [fin_zero] at h; omega
    | succ b => exact ⟨b, h⟩
  | succ d ih =>
    intro m b e h hd
    cases b with
    | zero => rw [fin_zero] at h; omega
    | succ b =>
      obtain ⟨h1, _⟩ := fin_first ks m b (by omega)
      obtain ⟨h2, h3⟩ := kid_nonneg ks m h1
      rw [fin_step ks m b h2 h3] at h
      have := ih (m + 1) _ e h (by omega)
      rwa [show m + 1 + d = m + (d + 1) by omega] at this
theorem fin_uniq (ks : List Int) (m a b e : Nat) (ha : fin ks m a = (e : Int)) (hb : fin ks m b = (e : Int)) : a = b := by
  have key : ∀ x y : Nat, fin ks m x = (e : Int) → fin ks m y = (e : Int) → x < y → False := by
    intro x y hx hy h
    have h1 := fin_add ks m x (y - x)
    rw [show x + (y - x) = y by omega, hx, hy, if_neg (by omega), Int.toNat_natCast] at h1
    have h2 := fin_le ks e (y - x) (by omega)
    omega
  rcases Nat.lt_trichotomy a b with h | h | h
  · exact (key a b ha hb h).elim
  · exact h
  · exact (key b a hb ha h).elim
theorem par_uniq (ks : List Int) (p q i : Nat) (hp : IsPar ks p i) (hq : IsPar ks q i) : p = q := by
  have key : ∀ x y : Nat, IsPar ks x i → IsPar ks y i → x < y → False := by
    rintro x y ⟨hx, b, hb, hf⟩ ⟨hy, c, hc, hg⟩ h
    obtain ⟨o, ho⟩ := fin_pass ks (y - (x + 1)) (x + 1) b i hf (by omega)
    rw [show x + 1 + (y - (x + 1)) = y by omega] at ho
    obtain ⟨h1, _⟩ := fin_first ks y o (by omega)
    obtain ⟨h2, h3⟩ := kid_nonneg ks y h1
    rw [fin_step ks y o h2 h3] at ho
    have := fin_uniq ks (y + 1) _ _ i ho hg
    omega
  rcases Nat.lt_trichotomy p q with h | h | h
  · exact (key p q hp hq h).elim
  · exact h
  · exact (key q p hq hp h).elim
theorem mem_starts (ks : List Int) (r m i : Nat) (h : 0 ≤ fin ks m r) : i ∈ starts ks m r ↔ ∃ b, b < r ∧ fin ks m b = (i : Int) := by
  constructor
  · intro hi
    obtain ⟨j, hj, hg⟩ := List.getElem_of_mem hi
    rw [starts_length] at hj
    have := (starts_get ks r m j hj h).1
    rw [List.getD_eq_getElem?_getD, List.getElem?_eq_getElem (by simpa [starts_length] using hj), hg] at this
    exact ⟨j, hj, by simpa using this.symm⟩
  · rintro ⟨b, hb, hf⟩
    have h1 := (starts_get ks r m b hb h).1
    have hl : b < (starts ks m r).length := by simpa [starts_length] using hb
    rw [List.getD_eq_getElem?_getD, List.getElem?_eq_getElem hl, hf] at h1
    simp at h1
    have : (starts ks m r)[b] = i := by omega
    rw [← this]
    exact List.getElem_mem hl
theorem mem_kids (ks : List Int) (p i : Nat) (h : 0 ≤ fin ks p 1) : i ∈ kidsI ks p ↔ IsPar ks p i := by
  unfold kidsI
  rw [endI_nat, if_neg (by omega), Int.toNat_natCast]
  have h1 := fin_kids ks p h
  have h2 := kid_nonneg ks p h
  rw [mem_starts ks _ _ i (by omega)]
  constructor
  · rintro ⟨b, hb, hf⟩
    have := fin_le ks (p + 1) b (by omega)
    exact ⟨by omega, b, by omega, hf⟩
  · rintro ⟨_, b, hb, hf⟩
    exact ⟨b, by omega, hf⟩
theorem whole_fin (ks : List Int) (h : wholeB ks = true) : fin ks 0 1 = ks.length := by simpa [wholeB, endI] using h
theorem whole_sub (ks : List Int) (h : wholeB ks = true) (m : Nat) (hm : m < ks.length) : 0 ≤ fin ks m 1 := by
  obtain ⟨o, ho⟩ := fin_pass ks m 0 1 ks.length (whole_fin ks h) (by omega)
  rw [Nat.zero_add] at ho
  exact (fin_first ks m o (by omega)).1
theorem whole_nonneg (ks : List Int) (h : wholeB ks = true) (m : Nat) (hm : m < ks.length) : 0 ≤ ks.getD m 0 := (kid_nonneg ks m (whole_sub ks h m hm)).2
/-- Going back. -/
theorem up_more (ks : List Int) (h : wholeB ks = true) (p b i : Nat) (hp : p < i) (hi : i < ks.length) (hf : fin ks (p + 1) b = (i : Int)) (hk : ks.getD p 0 ≤ b) :
    0 < p ∧ fin ks p (b - (ks.getD p 0).toNat + 1) = (i : Int) := by
  have h0 := whole_nonneg ks h p (by omega)
  have h1 : fin ks p (b - (ks.getD p 0).toNat + 1) = (i : Int) := by
    rw [fin_step ks p _ (by omega) h0, show b - (ks.getD p 0).toNat + (ks.getD p 0).toNat = b by omega]
    exact hf
  refine ⟨?_, h1⟩
  rcases Nat.eq_zero_or_pos p with rfl | hp0
  · exfalso
    have h2 := (fin_first ks 0 _ (show 0 ≤ fin ks 0 (b - (ks.getD 0 0).toNat + 1) by omega)).2
    rw [whole_fin ks h, Int.toNat_natCast] at h2
    have h3 := fin_le ks ks.length (b - (ks.getD 0 0).toNat) (by omega)
    omega
  · exact hp0
theorem sum_kids : ∀ (ks : List Int) (o : Nat), scan ks o = some ks.length → (ks.map Int.toNat).sum + o = ks.length := by
  intro ks
  induction ks with
  | nil => intro o h; cases o with
    | zero => rfl
    | succ o => simp [scan] at h
  | cons k ks ih =>
    intro o h
    cases o with
    | zero => simp [scan] at h
    | succ o =>
      rw [scan_cons] at h
      split at h
      · simp at h
      · cases hs : scan ks (o + k.toNat) with
        | none => rw [hs] at h; simp at h
        | some n =>
          rw [hs] at h
          simp at h
          subst h
          have := ih _ hs
          simp
          omega
end Go.Proofs.TreeMath
