/- Texts of this seat, one behind the other: Math, Views. -/
import Derived.Test.YtggjckalmlploaaGreatDoorRows
import Derived.WalkKit
import Derived.ProofKit
import Derived.Below
import Derived.Deep.OwnRows
/- Trees stored as lists of nodes in preorder, as plain mathematics: only the nodes' numbers of kids. No Go here. -/
namespace Go.Proofs.TreeMath

/-- How many nodes are gone through until no tree is open any more; none if a node has no number of kids, or the nodes give out. -/
def scan : List Int → Nat → Option Nat
  | _, 0 => some 0
  | [], _ + 1 => none
  | k :: ks, o + 1 => if k < 0 then none else (scan ks (o + k.toNat)).map (· + 1)

theorem scan_zero (ks : List Int) : scan ks 0 = some 0 := by cases ks <;> rfl
theorem scan_cons (k : Int) (ks : List Int) (o : Nat) : scan (k :: ks) (o + 1) = if k < 0 then none else (scan ks (o + k.toNat)).map (· + 1) := rfl

theorem scan_le : ∀ (ks : List Int) (o n : Nat), scan ks o = some n → o ≤ n ∧ n ≤ ks.length := by
  intro ks
  induction ks with
  | nil => intro o n h; cases o with
    | zero => simp [scan] at h; omega
    | succ o => simp [scan] at h
  | cons k ks ih =>
    intro o n h
    cases o with
    | zero => simp [scan] at h; omega
    | succ o =>
      rw [scan_cons] at h
      split at h
      · simp at h
      · cases hs : scan ks (o + k.toNat) with
        | none => rw [hs] at h; simp at h
        | some m =>
          rw [hs] at h
          simp at h
          have := ih _ _ hs
          simp
          omega

theorem scan_add : ∀ (ks : List Int) (a b : Nat), scan ks (a + b) = (scan ks a).bind fun n => (scan (ks.drop n) b).map (n + ·) := by
  intro ks
  induction ks with
  | nil =>
    intro a b
    cases a with
    | zero => cases b <;> simp [scan]
    | succ a => simp [scan, Nat.succ_add]
  | cons k ks ih =>
    intro a b
    cases a with
    | zero => cases h : scan (k :: ks) b <;> simp [scan_zero, h]
    | succ a =>
      rw [Nat.succ_add, scan_cons, scan_cons]
      split
      · simp
      · rw [show a + b + k.toNat = (a + k.toNat) + b by omega, ih]
        cases h : scan ks (a + k.toNat) with
        | none => simp
        | some n =>
          simp only [Option.bind_some, Option.map_some, List.drop_succ_cons]
          cases scan (ks.drop n) b <;> simp
          omega

theorem scan_take : ∀ (ks : List Int) (o n : Nat), scan ks o = some n → scan (ks.take n) o = some n := by
  intro ks
  induction ks with
  | nil => intro o n h; cases o with
    | zero => simpa [scan_zero] using h
    | succ o => simp [scan] at h
  | cons k ks ih =>
    intro o n h
    cases o with
    | zero => simp [scan_zero] at h; subst h; simp [scan]
    | succ o =>
      rw [scan_cons] at h
      split at h
      · simp at h
      · rename_i hk
        cases hs : scan ks (o + k.toNat) with
        | none => rw [hs] at h; simp at h
        | some m =>
          rw [hs] at h
          simp at h
          subst h
          rw [List.take_succ_cons, scan_cons, if_neg hk, ih _ _ hs]
          rfl

/-- Where one is when o trees that begin at m have been gone through; -1. -/
def fin (ks : List Int) (m o : Nat) : Int :=
  match scan (ks.drop m) o with
  | some n => ((m + n : Nat) : Int)
  | none => -1

theorem fin_zero (ks : List Int) (m : Nat) : fin ks m 0 = m := by simp [fin, scan_zero]
theorem fin_range (ks : List Int) (m o : Nat) (hm : m ≤ ks.length) : fin ks m o = -1 ∨ ((m + o : Nat) : Int) ≤ fin ks m o ∧ fin ks m o ≤ ks.length := by
  unfold fin
  cases h : scan (ks.drop m) o with
  | none => exact .inl rfl
  | some n =>
    have := scan_le _ _ _ h
    simp at this
    right
    simp
    omega
theorem fin_out (ks : List Int) (m o : Nat) (hm : ks.length ≤ m) : fin ks m (o + 1) = -1 := by
  unfold fin
  rw [List.drop_eq_nil_of_le hm]
  rfl
theorem drop_get (ks : List Int) (m : Nat) (hm : m < ks.length) : ks.drop m = ks.getD m 0 :: ks.drop (m + 1) := by
  rw [List.drop_eq_getElem_cons hm, List.getD_eq_getElem?_getD, List.getElem?_eq_getElem hm]
  rfl
theorem fin_neg (ks : List Int) (m o : Nat) (hm : m < ks.length) (hk : ks.getD m 0 < 0) : fin ks m (o + 1) = -1 := by
  unfold fin
  rw [drop_get ks m hm, scan_cons, if_pos hk]
theorem fin_step (ks : List Int) (m o : Nat) (hm : m < ks.length) (hk : 0 ≤ ks.getD m 0) : fin ks m (o + 1) = fin ks (m + 1) (o + (ks.getD m 0).toNat) := by
  unfold fin
  rw [drop_get ks m hm, scan_cons, if_neg (by omega)]
  cases scan (ks.drop (m + 1)) (o + (ks.getD m 0).toNat) <;> simp
  omega
theorem fin_many (ks : List Int) (m o : Nat) (hm : m ≤ ks.length) (h : (ks.length : Int) < m + o) : fin ks m o = -1 := by
  rcases fin_range ks m o hm with h1 | h1
  · exact h1
  · omega
theorem fin_succ (ks : List Int) (m r : Nat) : fin ks m (r + 1) = if fin ks m 1 < 0 then -1 else fin ks (fin ks m 1).toNat r := by
  unfold fin
  rw [Nat.add_comm r 1, scan_add]
  cases h : scan (ks.drop m) 1 with
  | none => simp
  | some n =>
    simp only [Option.bind_some, List.drop_drop]
    rw [if_neg (by omega), Int.toNat_natCast]
    cases scan (ks.drop (m + n)) r <;> simp
    omega
theorem fin_add (ks : List Int) (m a b : Nat) : fin ks m (a + b) = if fin ks m a < 0 then -1 else fin ks (fin ks m a).toNat b := by
  unfold fin
  rw [scan_add]
  cases h : scan (ks.drop m) a with
  | none => simp
  | some n =>
    simp only [Option.bind_some, List.drop_drop]
    rw [if_neg (by omega), Int.toNat_natCast]
    cases scan (ks.drop (m + n)) b <;> simp
    omega

/-- Where the tree that begins at an index ends; -1. -/
def endI (ks : List Int) (i : Int) : Int := if i < 0 then -1 else fin ks i.toNat 1
theorem endI_nat (ks : List Int) (m : Nat) : endI ks (m : Int) = fin ks m 1 := by simp [endI]; omega
theorem endI_out (ks : List Int) (i : Int) (h : i < 0 ∨ (ks.length : Int) ≤ i) : endI ks i = -1 := by
  unfold endI
  split
  · rfl
  · exact fin_out ks _ 0 (by omega)
/-- Exactly one tree? -/
def wholeB (ks : List Int) : Bool := endI ks 0 == (ks.length : Int)
theorem wholeB_iff (ks : List Int) : wholeB ks = true ↔ scan ks 1 = some ks.length := by
  simp only [wholeB, endI, fin]
  cases h : scan ks 1 with
  | none => simp [h]; try omega
  | some n => simp [h]; try omega
theorem wholeB_pos (ks : List Int) (h : wholeB ks = true) : 0 < ks.length := by
  have := scan_le _ _ _ ((wholeB_iff ks).1 h)
  omega
/-- Where each of r trees begins, the first one of which begins at m. -/
def starts (ks : List Int) : Nat → Nat → List Nat
  | _, 0 => []
  | m, r + 1 => m :: starts ks (fin ks m 1).toNat r
theorem starts_length (ks : List Int) : ∀ (r m : Nat), (starts ks m r).length = r := by
  intro r
  induction r with
  | zero => intro m; rfl
  | succ r ih => intro m; simp [starts, ih]
theorem kid_nonneg (ks : List Int) (m : Nat) (h : 0 ≤ fin ks m 1) : m < ks.length ∧ 0 ≤ ks.getD m 0 := by
  have hm : m < ks.length := by
    by_cases hm : m < ks.length
    · exact hm
    · have h9 : fin ks m 1 = -1 := fin_out ks m 0 (by omega)
      omega
  refine ⟨hm, ?_⟩
  by_cases hk : 0 ≤ ks.getD m 0
  · exact hk
  · have h9 : fin ks m 1 = -1 := fin_neg ks m 0 hm (by omega)
    omega
theorem fin_kids (ks : List Int) (m : Nat) (h : 0 ≤ fin ks m 1) : fin ks m 1 = fin ks (m + 1) (ks.getD m 0).toNat := by
  obtain ⟨h1, h2⟩ := kid_nonneg ks m h
  have := fin_step ks m 0 h1 h2
  simpa using this
theorem kid_few (ks : List Int) (m : Nat) (h : 0 ≤ fin ks m 1) : (ks.getD m 0).toNat + m + 1 ≤ ks.length := by
  have h1 := fin_kids ks m h
  have h2 := kid_nonneg ks m h
  rcases fin_range ks (m + 1) (ks.getD m 0).toNat (by omega) with h3 | h3 <;> omega

/-! ### The parts of a tree -/
theorem starts_succ (ks : List Int) (m r : Nat) : starts ks m (r + 1) = m :: starts ks (fin ks m 1).toNat r := rfl
theorem fin_first (ks : List Int) (m r : Nat) (h : 0 ≤ fin ks m (r + 1)) : 0 ≤ fin ks m 1 ∧ fin ks m (r + 1) = fin ks (fin ks m 1).toNat r := by
  have h1 := fin_succ ks m r
  split at h1
  · omega
  · exact ⟨by omega, h1⟩
theorem fin_le (ks : List Int) (m o : Nat) (h : 0 ≤ fin ks m o) : ((m + o : Nat) : Int) ≤ fin ks m o := by
  unfold fin at h ⊢
  cases hs : scan (ks.drop m) o with
  | none => rw [hs] at h; simp at h
  | some n => have := scan_le _ _ _ hs; simp; omega
theorem fin_len (ks : List Int) (m o : Nat) (hm : m ≤ ks.length) : fin ks m o ≤ ks.length := by
  rcases fin_range ks m o hm with h | h <;> omega
theorem sub_parts {α : Type} (l : List α) (ks : List Int) : ∀ (r m : Nat), 0 ≤ fin ks m r →
    (l.drop m).take ((fin ks m r).toNat - m) = ((starts ks m r).map fun s => (l.drop s).take ((fin ks s 1).toNat - s)).flatten := by
  intro r
  induction r with
  | zero => intro m h; simp [fin_zero, starts]
  | succ r ih =>
    intro m h
    obtain ⟨h1, h2⟩ := fin_first ks m r h
    have h3 := fin_le ks m 1 h1
    have h4 := ih (fin ks m 1).toNat (by omega)
    have h5 := fin_le ks (fin ks m 1).toNat r (by omega)
    rw [starts_succ, List.map_cons, List.flatten_cons, ← h4, h2]
    have e : (fin ks (fin ks m 1).toNat r).toNat - m = ((fin ks m 1).toNat - m) + ((fin ks (fin ks m 1).toNat r).toNat - (fin ks m 1).toNat) := by omega
    rw [e, List.take_add, List.drop_drop]
    congr 2
    congr 1
    omega
theorem sub_whole (ks : List Int) (m : Nat) (h : 0 ≤ fin ks m 1) : wholeB ((ks.drop m).take ((fin ks m 1).toNat - m)) = true := by
  rw [wholeB_iff]
  have hm := kid_nonneg ks m h
  have h2 := fin_len ks m 1 (by omega)
  unfold fin at h h2 ⊢
  cases hs : scan (ks.drop m) 1 with
  | none => rw [hs] at h; simp at h
  | some n =>
    rw [hs] at h2
    simp only at h2 ⊢
    have h3 := scan_le _ _ _ hs
    rw [List.length_drop] at h3
    have e : ((m + n : Nat) : Int).toNat - m = n := by omega
    rw [e, scan_take _ _ _ hs]
    simp
    omega
theorem starts_get (ks : List Int) : ∀ (r m j : Nat), j < r → 0 ≤ fin ks m r → ((starts ks m r).getD j 0 : Int) = fin ks m j ∧ 0 ≤ fin ks m (j + 1) := by
  intro r
  induction r with
  | zero => intro m j h; omega
  | succ r ih =>
    intro m j hj h
    obtain ⟨h1, h2⟩ := fin_first ks m r h
    rw [starts_succ]
    cases j with
    | zero => exact ⟨by simp [fin_zero], h1⟩
    | succ j =>
      have := ih (fin ks m 1).toNat j (by omega) (by omega)
      have e1 := fin_succ ks m j
      have e2 := fin_succ ks m (j + 1)
      rw [if_neg (by omega)] at e1 e2
      rw [e1, e2]
      simpa using this

/-! ### Trees put together -/
/-! ### How deep -/
def trim (o : Nat) (p : List Nat) : List Nat := p.dropWhile fun x => decide (o < x)
theorem trim_trim (o u : Nat) (h : o ≤ u) (p : List Nat) : trim o (trim u p) = trim o p := by
  induction p with
  | nil => rfl
  | cons x p ih =>
    unfold trim at ih ⊢
    by_cases hx : u < x
    · simp only [List.dropWhile_cons, decide_eq_true_eq, hx, if_true, show o < x by omega]
      exact ih
    · simp only [List.dropWhile_cons, decide_eq_true_eq, hx, if_false]
theorem trim_head (o u : Nat) (h : o ≤ u) (q : List Nat) : trim u (o :: q) = o :: q := by
  unfold trim
  simp [show ¬ u < o by omega]
theorem trim_past (o : Nat) (q : List Nat) : trim o ((o + 1) :: q) = trim o q := by
  unfold trim
  simp
/-- The walk with a path: for each node on it how many trees were open there (the last one first); the length of the longest path. -/
def dl : List Int → Nat → List Nat → Nat → Nat
  | [], _, _, d => d
  | _ :: _, 0, _, d => d
  | k :: ks, o + 1, p, d => dl ks (o + k.toNat) ((o + 1) :: trim (o + 1) p) (max d (((o + 1) :: trim (o + 1) p).length))
theorem dl_zero (ks : List Int) (p : List Nat) (d : Nat) : dl ks 0 p d = d := by cases ks <;> rfl
theorem dl_trim (R : List Int) (o : Nat) (p q : List Nat) (d : Nat) (h : trim o q = trim o p) : dl R o q d = dl R o p d := by
  cases R with
  | nil => rfl
  | cons k R =>
    cases o with
    | zero => rfl
    | succ o => rw [dl, dl, h]
/-- The depth. -/
def deepI (ks : List Int) : Nat := if wholeB ks then dl ks 1 [] 0 else 0
theorem whole_parts (T : List Int) (h : wholeB T = true) : ∃ (k : Int) (Ts : List (List Int)), T = k :: Ts.flatten ∧ 0 ≤ k ∧ k.toNat = Ts.length ∧ (∀ t ∈ Ts, wholeB t = true) ∧
    Ts = (starts T 1 k.toNat).map (fun s => (T.drop s).take ((fin T s 1).toNat - s)) ∧ k = T.getD 0 0 := by
  have hp := wholeB_pos T h
  have h0 : fin T 0 1 = T.length := by simpa [wholeB, endI] using h
  have h1 := kid_nonneg T 0 (by omega)
  have h2 := fin_kids T 0 (by omega)
  rw [Nat.zero_add] at h2
  have h3 := sub_parts T T (T.getD 0 0).toNat 1 (by omega)
  have h4 : fin T 1 (T.getD 0 0).toNat = T.length := by omega
  refine ⟨T.getD 0 0, (starts T 1 (T.getD 0 0).toNat).map (fun s => (T.drop s).take ((fin T s 1).toNat - s)), ?_, h1.2, by simp [starts_length], ?_, rfl, rfl⟩
  · rw [← h3, h4]
    have e := drop_get T 0 hp
    simp only [List.drop_zero, Nat.zero_add] at e
    rw [List.take_of_length_le (by simp)]
    exact e
  · intro t ht
    obtain ⟨s, hs, rfl⟩ := List.mem_map.1 ht
    obtain ⟨j, hj, hg⟩ := List.getElem_of_mem hs
    have := (starts_get T (T.getD 0 0).toNat 1 j (by simpa [starts_length] using hj) (by omega))
    rw [List.getD_eq_getElem?_getD, List.getElem?_eq_getElem hj, hg] at this
    simp only [Option.getD_some] at this
    have h5 := fin_succ T 1 j
    have h6 := fin_add T 1 j 1
    rw [if_neg (by omega), ← this.1, Int.toNat_natCast] at h6
    exact sub_whole T s (by omega)
def mx (d : Nat) (a : Nat) (Ts : List (List Int)) : Nat := Ts.foldl (fun d T => max d (a + deepI T)) d
theorem mx_cons (d a : Nat) (t : List Int) (ts : List (List Int)) : mx d a (t :: ts) = mx (max d (a + deepI t)) a ts := rfl
theorem mx_max (Ts : List (List Int)) : ∀ (d a c : Nat), mx (max d (c + a)) (c + a) Ts = max d (c + mx a a Ts) := by
  induction Ts with
  | nil => intro d a c; rfl
  | cons t ts ih =>
    intro d a c
    rw [mx_cons, mx_cons]
    have h : ∀ x : Nat, a ≤ x → mx (max d (c + x)) (c + a) ts = max d (c + mx x a ts) := by
      clear ih
      induction ts with
      | nil => intro x _; rfl
      | cons u us iu =>
        intro x hx
        rw [mx_cons, mx_cons, ← iu (max x (a + deepI u)) (by omega)]
        congr 1
        omega
    have := h (max a (a + deepI t)) (by omega)
    rw [← this]
    congr 1
    omega
theorem forest_run (n : Nat) (ih : ∀ T : List Int, T.length ≤ n → wholeB T = true → ∀ (R : List Int) (o : Nat) (p : List Nat) (d : Nat), dl (T ++ R) (o + 1) p d = dl R o p (max d ((trim (o + 1) p).length + deepI T))) :
    ∀ (Ts : List (List Int)), (∀ t ∈ Ts, wholeB t = true ∧ t.length ≤ n) → ∀ (R : List Int) (o : Nat) (q : List Nat) (d : Nat), (∀ j, 1 ≤ j → trim (o + j) q = q) →
      dl (Ts.flatten ++ R) (o + Ts.length) q d = dl R o q (mx d q.length Ts) := by
  intro Ts
  induction Ts with
  | nil => intro _ R o q d _; rfl
  | cons t ts it =>
    intro ht R o q d hq
    obtain ⟨h1, h2⟩ := ht t (by simp)
    rw [List.flatten_cons, List.append_assoc, List.length_cons, ← Nat.add_assoc, ih t h2 h1, it (fun x hx => ht x (by simp [hx])) R o q _ hq, mx_cons, show o + ts.length + 1 = o + (ts.length + 1) by omega, hq _ (by omega)]
theorem deepI_some (k : Int) (Ts : List (List Int)) (n : Nat) (hn : Ts.flatten.length ≤ n) (hk : k.toNat = Ts.length) (hw : wholeB (k :: Ts.flatten) = true) (hT : ∀ t ∈ Ts, wholeB t = true)
    (ih : ∀ T : List Int, T.length ≤ n → wholeB T = true → ∀ (R : List Int) (o : Nat) (p : List Nat) (d : Nat), dl (T ++ R) (o + 1) p d = dl R o p (max d ((trim (o + 1) p).length + deepI T))) :
    deepI (k :: Ts.flatten) = mx 1 1 Ts ∧ ∀ (R : List Int) (o : Nat) (p : List Nat) (d : Nat), dl (k :: Ts.flatten ++ R) (o + 1) p d = dl R o p (max d ((trim (o + 1) p).length + mx 1 1 Ts)) := by
  have hs : ∀ t ∈ Ts, wholeB t = true ∧ t.length ≤ n := fun t ht => ⟨hT t ht, by
    have := (List.sublist_flatten_of_mem ht).length_le
    omega⟩
  have key : ∀ (R : List Int) (o : Nat) (p : List Nat) (d : Nat), dl (k :: Ts.flatten ++ R) (o + 1) p d = dl R o p (max d ((trim (o + 1) p).length + mx 1 1 Ts)) := by
    intro R o p d
    rw [List.cons_append, dl, hk, forest_run n ih Ts hs R o _ _ (fun j hj => trim_head _ _ (by omega) _), List.length_cons, mx_max]
    refine dl_trim R o _ _ _ ?_
    rw [trim_past, trim_trim _ _ (by omega)]
  refine ⟨?_, key⟩
  have := key [] 0 [] 0
  unfold deepI
  rw [if_pos hw]
  simpa [dl, trim] using this
theorem tree_run : ∀ (n : Nat) (T : List Int), T.length ≤ n → wholeB T = true → ∀ (R : List Int) (o : Nat) (p : List Nat) (d : Nat), dl (T ++ R) (o + 1) p d = dl R o p (max d ((trim (o + 1) p).length + deepI T)) := by
  intro n
  induction n with
  | zero => intro T hT hw; have := wholeB_pos T hw; omega
  | succ n ih =>
    intro T hT hw
    obtain ⟨k, Ts, rfl, h0, hk, ht, _⟩ := whole_parts T hw
    obtain ⟨h1, h2⟩ := deepI_some k Ts n (by simpa using hT) hk hw ht ih
    rw [h1]
    exact h2
theorem deepI_parts (k : Int) (Ts : List (List Int)) (hk : k.toNat = Ts.length) (hw : wholeB (k :: Ts.flatten) = true) (hT : ∀ t ∈ Ts, wholeB t = true) : deepI (k :: Ts.flatten) = mx 1 1 Ts :=
  (deepI_some k Ts _ (Nat.le_refl _) hk hw hT (tree_run _)).1
/-! ### Whose kid -/
theorem fin_pass (ks : List Int) : ∀ (d m b e : Nat), fin ks m b = (e : Int) → m + d < e → ∃ o, fin ks (m + d) (o + 1) = (e : Int) := by
  intro d
  induction d with
  | zero =>
    intro m b e h hd
    cases b with
    | zero => rw [fin_zero] at h; omega
    | succ b => exact ⟨b, h⟩
  | succ d ih =>
    intro m b e h hd
    cases b with
    | zero => rw [fin_zero] at h; omega
    | succ b =>
      obtain ⟨h1, _⟩ := fin_first ks m b (by omega)
      obtain ⟨h2, h3⟩ := kid_nonneg ks m h1
      rw [fin_step ks m b h2 h3] at h
      have := ih (m + 1) _ e h (by omega)
      rwa [show m + 1 + d = m + (d + 1) by omega] at this
theorem whole_fin (ks : List Int) (h : wholeB ks = true) : fin ks 0 1 = ks.length := by simpa [wholeB, endI] using h
theorem whole_sub (ks : List Int) (h : wholeB ks = true) (m : Nat) (hm : m < ks.length) : 0 ≤ fin ks m 1 := by
  obtain ⟨o, ho⟩ := fin_pass ks m 0 1 ks.length (whole_fin ks h) (by omega)
  rw [Nat.zero_add] at ho
  exact (fin_first ks m o (by omega)).1
end Go.Proofs.TreeMath
/- Slices of nodes, of numbers and of such slices, as lists, in a world. -/
namespace Go.Proofs.YtggjckalmlploaaGreatDoor
open Go.RowKit

structure Nd where
  kind : Int
  text : ByteArray
  num : Int
  kids : Int
  deriving DecidableEq, Inhabited

def Nd.cells (n : Nd) : List Value := [.int .i64 n.kind, .string n.text, .int .i64 n.num, .int .i64 n.kids]
def nodeCells (ns : List Nd) : List Value := ns.flatMap Nd.cells
def intCells (xs : List Int) : List Value := xs.map (Value.int .i64)
def kk (ns : List Nd) : List Int := ns.map Nd.kids
/-- Cells, one behind the other. -/
def CellsIn (w : World) (b off : Nat) (cs : List Value) : Prop := ∀ j u, cs[j]? = some u → w.cell? ⟨b, off + j, none⟩ = some u
/-- A slice of n elements of so many cells each. -/
def SliceAt (w : World) (size : Nat) (v : Value) (n : Nat) (cs : List Value) : Prop :=
  cs.length = n * size ∧ ∃ p cap, v = .slice p n cap ∧ n ≤ cap ∧ cap ≤ maxLen ∧ (n ≠ 0 → ∃ b off, p = some ⟨b, off, none⟩ ∧ b < w.heap.size ∧ CellsIn w b off cs)
def NodesAt (w : World) (v : Value) (ns : List Nd) : Prop := SliceAt w 4 v ns.length (nodeCells ns)
def IntsAt (w : World) (v : Value) (xs : List Int) : Prop := SliceAt w 1 v xs.length (intCells xs)
def ListsAt (w : World) (v : Value) (Ls : List (List Nd)) : Prop := ∃ vs : List Value, SliceAt w 1 v Ls.length vs ∧ ∀ i, i < Ls.length → NodesAt w (vs.getD i default) (Ls.getD i [])

theorem length_nodeCells (ns : List Nd) : (nodeCells ns).length = ns.length * 4 := by
  induction ns with
  | nil => rfl
  | cons n ns ih =>
    unfold nodeCells at ih ⊢
    rw [List.flatMap_cons, List.length_append, ih]
    simp [Nd.cells]
    omega
theorem length_kk (ns : List Nd) : (kk ns).length = ns.length := by simp [kk]
theorem kk_get (ns : List Nd) (i : Nat) : (kk ns).getD i 0 = (ns.getD i default).kids := by
  simp only [kk, List.getD_eq_getElem?_getD, List.getElem?_map]
  cases ns[i]? <;> rfl
theorem nodeCells_append (a b : List Nd) : nodeCells (a ++ b) = nodeCells a ++ nodeCells b := by simp [nodeCells]
theorem nodeCells_get (ns : List Nd) (i : Nat) (hi : i < ns.length) (j : Nat) (hj : j < 4) : (nodeCells ns)[i * 4 + j]? = (Nd.cells (ns.getD i default))[j]? := by
  induction ns generalizing i with
  | nil => simp at hi
  | cons n ns ih =>
    unfold nodeCells at ih ⊢
    rw [List.flatMap_cons]
    have h4 : (Nd.cells n).length = 4 := rfl
    cases i with
    | zero => rw [List.getElem?_append_left (by omega)]; simp
    | succ i =>
      rw [List.getElem?_append_right (by omega), show (i + 1) * 4 + j - (Nd.cells n).length = i * 4 + j by omega, ih i (by simpa using hi)]
      simp
theorem nodeCells_take (ns : List Nd) : ∀ k, nodeCells (ns.take k) = (nodeCells ns).take (k * 4) := by
  induction ns with
  | nil => intro k; simp [nodeCells]
  | cons n ns ih =>
    intro k
    cases k with
    | zero => simp [nodeCells]
    | succ k =>
      have := ih k
      unfold nodeCells at this ⊢
      rw [List.take_succ_cons, List.flatMap_cons, List.flatMap_cons, this, show (k + 1) * 4 = (Nd.cells n).length + k * 4 by simp [Nd.cells]; omega, List.take_length_add_append]
theorem nodeCells_drop (ns : List Nd) : ∀ k, nodeCells (ns.drop k) = (nodeCells ns).drop (k * 4) := by
  induction ns with
  | nil => intro k; simp [nodeCells]
  | cons n ns ih =>
    intro k
    cases k with
    | zero => simp [nodeCells]
    | succ k =>
      have := ih k
      unfold nodeCells at this ⊢
      rw [List.drop_succ_cons, List.flatMap_cons, this, show (k + 1) * 4 = (Nd.cells n).length + k * 4 by simp [Nd.cells]; omega, List.drop_length_add_append]
theorem nodeCells_one (ns : List Nd) : ∀ u ∈ nodeCells ns, u.oneCell' = true := by
  intro u hu
  obtain ⟨n, _, hn⟩ := List.mem_flatMap.1 hu
  simp [Nd.cells] at hn
  rcases hn with rfl | rfl | rfl | rfl <;> rfl
theorem intCells_one (xs : List Int) : ∀ u ∈ intCells xs, u.oneCell' = true := by
  intro u hu
  obtain ⟨n, _, rfl⟩ := List.mem_map.1 hu
  rfl
theorem take_get {α : Type} {l : List α} {n j : Nat} {u : α} (h : (l.take n)[j]? = some u) : l[j]? = some u := by
  rw [List.getElem?_take] at h
  split at h
  · exact h
  · simp at h
theorem CellsIn.node {w : World} {b off : Nat} {ns : List Nd} (h : CellsIn w b off (nodeCells ns)) (i : Nat) (hi : i < ns.length) :
    w.cell? ⟨b, off + i * 4, none⟩ = some (.int .i64 (ns.getD i default).kind) ∧ w.cell? ⟨b, off + i * 4 + 1, none⟩ = some (.string (ns.getD i default).text) ∧
    w.cell? ⟨b, off + i * 4 + 2, none⟩ = some (.int .i64 (ns.getD i default).num) ∧ w.cell? ⟨b, off + i * 4 + 3, none⟩ = some (.int .i64 (ns.getD i default).kids) := by
  have h0 := h _ _ (nodeCells_get ns i hi 0 (by omega))
  have h1 := h _ _ (nodeCells_get ns i hi 1 (by omega))
  have h2 := h _ _ (nodeCells_get ns i hi 2 (by omega))
  have h3 := h _ _ (nodeCells_get ns i hi 3 (by omega))
  exact ⟨h0, h1, h2, h3⟩
theorem CellsIn.kids {w : World} {b off : Nat} {ns : List Nd} (h : CellsIn w b off (nodeCells ns)) (i : Nat) (hi : i < ns.length) :
    w.cell? ⟨b, off + i * 4 + 3, none⟩ = some (.int .i64 ((kk ns).getD i 0)) := by
  rw [kk_get]
  exact (h.node i hi).2.2.2
theorem CellsIn.int {w : World} {b off : Nat} {xs : List Int} (h : CellsIn w b off (intCells xs)) (i : Nat) (hi : i < xs.length) :
    w.cell? ⟨b, off + i, none⟩ = some (.int .i64 (xs.getD i 0)) := by
  refine h i _ ?_
  simp [intCells, List.getElem?_eq_getElem hi, List.getD_eq_getElem?_getD]
theorem CellsIn.kept {w w' : World} {b off : Nat} {cs : List Value} (h : CellsIn w b off cs) (e : w'.heap[b]? = w.heap[b]?) : CellsIn w' b off cs :=
  fun j u hj => by rw [World.cell?_of_block (w := w) (w' := w') (a := ⟨b, off + j, none⟩) e]; exact h j u hj
theorem SliceAt.below {w w' : World} {size n : Nat} {v : Value} {cs : List Value} (h : SliceAt w size v n cs) (b : Below w.heap.size w w') : SliceAt w' size v n cs := by
  obtain ⟨h1, p, cap, rfl, h2, h3, h4⟩ := h
  refine ⟨h1, p, cap, rfl, h2, h3, fun hn => ?_⟩
  obtain ⟨bk, off, rfl, hb, hc⟩ := h4 hn
  exact ⟨bk, off, rfl, Nat.lt_of_lt_of_le hb b.size, hc.kept (b.block bk hb)⟩
theorem SliceAt.grown {w w' : World} {size n : Nat} {v : Value} {cs : List Value} {row : Option Nat} (h : SliceAt w size v n cs) (g : w.grownBy w' row) (hne : v.ownBlock = none ∨ v.ownBlock ≠ row) : SliceAt w' size v n cs := by
  obtain ⟨h1, p, cap, rfl, h2, h3, h4⟩ := h
  refine ⟨h1, p, cap, rfl, h2, h3, fun hn => ?_⟩
  obtain ⟨bk, off, rfl, hb, hc⟩ := h4 hn
  exact ⟨bk, off, rfl, Nat.lt_of_lt_of_le hb g.size, hc.kept (g.block bk hb (by simpa [Value.ownBlock] using hne))⟩
theorem SliceAt.of_owns {w : World} {base : Nat} {e : TypeId} {size n : Nat} {v : Value} {xs : List Value} (h : w.ownsRow base e size v n xs) : SliceAt w size v n xs := by
  obtain ⟨hl, h⟩ := h
  rcases h with ⟨rfl, rfl⟩ | ⟨g, cap, cur, rfl, hb, hg, hn, hm, hs, ht⟩
  · exact ⟨hl, none, 0, rfl, Nat.le_refl _, by unfold maxLen; omega, fun h => absurd rfl h⟩
  · refine ⟨hl, _, cap, rfl, hn, hm, fun _ => ⟨g, 0, rfl, ?_, ?_⟩⟩
    · exact (Array.getElem?_eq_some_iff.1 hg).1
    · intro j u hj
      rw [← ht] at hj
      have hj' := take_get hj
      simp [World.cell?, hg]
      simpa using hj'
theorem SliceAt.nil (w : World) (size : Nat) : SliceAt w size (.slice none 0 0) 0 [] := ⟨by simp, none, 0, rfl, Nat.le_refl _, by unfold maxLen; omega, fun h => absurd rfl h⟩
theorem NodesAt.below {w w' : World} {v : Value} {ns : List Nd} (h : NodesAt w v ns) (b : Below w.heap.size w w') : NodesAt w' v ns := SliceAt.below h b
theorem IntsAt.below {w w' : World} {v : Value} {xs : List Int} (h : IntsAt w v xs) (b : Below w.heap.size w w') : IntsAt w' v xs := SliceAt.below h b
theorem ListsAt.below {w w' : World} {v : Value} {Ls : List (List Nd)} (h : ListsAt w v Ls) (b : Below w.heap.size w w') : ListsAt w' v Ls := by
  obtain ⟨vs, h1, h2⟩ := h
  exact ⟨vs, h1.below b, fun i hi => (h2 i hi).below b⟩
/-- A cut of a slice. -/
theorem SliceAt.cut {w : World} {size n b off : Nat} {cs : List Value} (hl : cs.length = n * size) (hc : CellsIn w b off cs) (hb : b < w.heap.size) (i j : Nat) (hij : i ≤ j) (hj : j ≤ n) (c : Nat) (hjc : j - i ≤ c) (hcm : c ≤ maxLen) :
    SliceAt w size (.slice (some ⟨b, off + i * size, none⟩) (j - i) c) (j - i) ((cs.drop (i * size)).take ((j - i) * size)) := by
  refine ⟨?_, _, c, rfl, hjc, hcm, fun _ => ⟨b, _, rfl, hb, ?_⟩⟩
  · rw [List.length_take, List.length_drop, hl, ← Nat.sub_mul]
    have := Nat.mul_le_mul_right size (show j - i ≤ n - i by omega)
    omega
  · intro k u hk
    have hk' := take_get hk
    rw [List.getElem?_drop] at hk'
    rw [Nat.add_assoc]
    exact hc _ _ hk'
end Go.Proofs.YtggjckalmlploaaGreatDoor
