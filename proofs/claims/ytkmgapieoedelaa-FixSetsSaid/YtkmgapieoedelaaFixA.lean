/- The mathematics of fixities, first part: their order, and lists that are sorted. -/
namespace Go.Proofs.FixMath

structure Fx where
  op : ByteArray
  level : Int
  side : Int
  deriving DecidableEq, Inhabited

abbrev Fx.key (f : Fx) : List UInt8 := f.op.data.toList
theorem op_key {f g : Fx} : f.op = g.op ↔ f.key = g.key := by
  refine ⟨fun h => by rw [Fx.key, h], fun h => ?_⟩
  obtain ⟨⟨⟨a⟩⟩, _, _⟩ := f
  obtain ⟨⟨⟨b⟩⟩, _, _⟩ := g
  simp [Fx.key] at h
  rw [h]

/-- One more, in order: behind all that are less. -/
def insF (x : Fx) : List Fx → List Fx
  | [] => [x]
  | y :: ys => if y.key < x.key then y :: insF x ys else x :: y :: ys
/-- How many stand ahead of it. -/
def insAt (x : Fx) : List Fx → Nat
  | [] => 0
  | y :: ys => if y.key < x.key then insAt x ys + 1 else 0
theorem insF_at (x : Fx) (ys : List Fx) : insF x ys = ys.take (insAt x ys) ++ x :: ys.drop (insAt x ys) := by
  induction ys with
  | nil => rfl
  | cons y ys ih =>
    unfold insF insAt
    split
    · rw [ih]; simp
    · simp
theorem insAt_le (x : Fx) (ys : List Fx) : insAt x ys ≤ ys.length := by
  induction ys with
  | nil => simp [insAt]
  | cons y ys ih => unfold insAt; split <;> simp <;> omega
theorem insAt_lt (x : Fx) (ys : List Fx) (k : Nat) (h : k < insAt x ys) : (ys.getD k default).key < x.key := by
  induction ys generalizing k with
  | nil => simp [insAt] at h
  | cons y ys ih =>
    unfold insAt at h
    split at h
    · cases k with
      | zero => simpa
      | succ k => exact ih k (by omega)
    · omega
theorem insAt_ge (x : Fx) (ys : List Fx) (h : insAt x ys < ys.length) : ¬ (ys.getD (insAt x ys) default).key < x.key := by
  induction ys with
  | nil => simp at h
  | cons y ys ih =>
    unfold insAt at h ⊢
    split at h
    · rename_i hy; rw [if_pos hy]; exact ih (by simpa using h)
    · rename_i hy; rw [if_neg hy]; simpa using hy
theorem insAt_of (x : Fx) (ys : List Fx) (k : Nat) (hk : k ≤ ys.length) (h1 : ∀ j, j < k → (ys.getD j default).key < x.key) (h2 : k < ys.length → ¬ (ys.getD k default).key < x.key) : insAt x ys = k := by
  rcases Nat.lt_trichotomy (insAt x ys) k with h | h | h
  · exact absurd (h1 _ h) (insAt_ge x ys (by omega))
  · exact h
  · exact absurd (insAt_lt x ys k h) (h2 (by have := insAt_le x ys; omega))
theorem insF_len (x : Fx) (ys : List Fx) : (insF x ys).length = ys.length + 1 := by
  induction ys with
  | nil => rfl
  | cons y ys ih => unfold insF; split <;> simp [ih]
theorem insF_perm (x : Fx) (ys : List Fx) : (insF x ys).Perm (x :: ys) := by
  induction ys with
  | nil => exact List.Perm.refl _
  | cons y ys ih =>
    unfold insF
    split
    · exact (ih.cons y).trans (List.Perm.swap x y ys)
    · exact List.Perm.refl _
theorem insF_sorted (x : Fx) (ys : List Fx) (h : ys.Pairwise (fun a b => a.key < b.key)) (hx : ∀ y ∈ ys, ¬ y.key = x.key) : (insF x ys).Pairwise (fun a b => a.key < b.key) := by
  induction ys with
  | nil => simp [insF]
  | cons y ys ih =>
    have h' := List.pairwise_cons.1 h
    unfold insF
    split
    · rename_i hy
      refine List.pairwise_cons.2 ⟨fun z hz => ?_, ih h'.2 fun z hz => hx z (List.mem_cons_of_mem _ hz)⟩
      rcases List.mem_cons.1 ((insF_perm x ys).mem_iff.1 hz) with rfl | hz
      · exact hy
      · exact h'.1 z hz
    · rename_i hy
      have hlt : x.key < y.key := by
        have h1 : ¬ y.key = x.key := hx y List.mem_cons_self
        rcases List.le_iff_lt_or_eq.1 (List.not_lt.1 hy) with h | h
        · exact h
        · exact absurd h.symm h1
      refine List.pairwise_cons.2 ⟨fun z hz => ?_, h⟩
      rcases List.mem_cons.1 hz with rfl | hz
      · exact hlt
      · exact List.lt_trans hlt (h'.1 z hz)
/-- In order, one behind the other. -/
def sortR (l : List Fx) : List Fx := l.foldl (fun out x => insF x out) []
theorem foldl_perm (l : List Fx) : ∀ out : List Fx, (l.foldl (fun out x => insF x out) out).Perm (out ++ l) := by
  induction l with
  | nil => intro out; simp
  | cons x l ih =>
    intro out
    rw [List.foldl_cons]
    exact ((ih (insF x out)).trans ((insF_perm x out).append_right l)).trans (by simpa using List.perm_middle.symm)
theorem sortR_perm (l : List Fx) : (sortR l).Perm l := by have := foldl_perm l []; rw [List.nil_append] at this; exact this
theorem sortR_len (l : List Fx) : (sortR l).length = l.length := (sortR_perm l).length_eq
theorem foldl_sorted (l : List Fx) : ∀ out : List Fx, out.Pairwise (fun a b => a.key < b.key) → (∀ x ∈ l, ∀ y ∈ out, ¬ y.key = x.key) → (l.map Fx.key).Nodup → (l.foldl (fun out x => insF x out) out).Pairwise (fun a b => a.key < b.key) := by
  induction l with
  | nil => intro out h _ _; simpa
  | cons x l ih =>
    intro out h hx hn
    rw [List.map_cons, List.nodup_cons] at hn
    rw [List.foldl_cons]
    refine ih _ (insF_sorted x out h (hx x List.mem_cons_self)) (fun z hz y hy => ?_) hn.2
    rcases List.mem_cons.1 ((insF_perm x out).mem_iff.1 hy) with rfl | hy
    · intro e
      exact hn.1 (e ▸ List.mem_map_of_mem hz)
    · exact hx z (List.mem_cons_of_mem _ hz) y hy
theorem sortR_sorted (l : List Fx) (h : (l.map Fx.key).Nodup) : (sortR l).Pairwise (fun a b => a.key < b.key) := foldl_sorted l [] List.Pairwise.nil (by simp) h
/-- What is sorted in whatever way, and has no operator twice, is just that. -/
theorem sorted_is (l d : List Fx) (h : (l.map Fx.key).Nodup) (hp : d.Perm l) (hs : d.Pairwise (fun a b => ¬ b.key < a.key)) : d = sortR l := by
  have hn : (d.map Fx.key).Nodup := (hp.map Fx.key).nodup_iff.2 h
  refine List.Perm.eq_of_pairwise (le := fun a b => ¬ b.key < a.key) ?_ hs ?_ (hp.trans (sortR_perm l).symm)
  · intro a b ha hb h1 h2
    have e : a.key = b.key := List.le_antisymm (List.not_lt.1 h1) (List.not_lt.1 h2)
    have hb' : b ∈ d := hp.mem_iff.2 ((sortR_perm l).mem_iff.1 hb)
    obtain ⟨i, hi, rfl⟩ := List.getElem_of_mem ha
    obtain ⟨j, hj, rfl⟩ := List.getElem_of_mem hb'
    have := (List.getElem_inj (i := i) (j := j) (h₀ := by simpa using hi) (h₁ := by simpa using hj) hn).1 (by simpa using e)
    subst this
    rfl
  · refine (sortR_sorted l h).imp fun hab hba => ?_
    exact List.lt_irrefl _ (List.lt_trans hab hba)
/-- Whether an operator is told twice. -/
def dupB (l : List Fx) : Bool := !decide (l.map Fx.key).Nodup
theorem dup_perm {l d : List Fx} (h : d.Perm l) : dupB d = dupB l := by
  unfold dupB
  rw [decide_eq_decide.2 (h.map Fx.key).nodup_iff]
theorem dup_two {l : List Fx} (i k : Nat) (hk : k < i) (hi : i < l.length) (h : (l.getD k default).op = (l.getD i default).op) : dupB l = true := by
  unfold dupB
  rw [Bool.not_eq_true', decide_eq_false_iff_not]
  intro hn
  have := (List.getElem_inj (i := k) (j := i) (h₀ := by simp; omega) (h₁ := by simpa using hi) hn).1 (by
    have := op_key.1 h
    simp only [List.getD_eq_getElem?_getD, List.getElem?_eq_getElem hi, List.getElem?_eq_getElem (show k < l.length by omega), Option.getD_some] at this
    simpa using this)
  omega
theorem dup_none {l : List Fx} (h : ∀ i k, k < i → i < l.length → ¬ (l.getD k default).op = (l.getD i default).op) : dupB l = false := by
  unfold dupB
  rw [Bool.not_eq_false', decide_eq_true_iff, List.nodup_iff_pairwise_ne, List.pairwise_iff_getElem]
  intro k i hk hi hki e
  refine h i k hki (by simpa using hi) (op_key.2 ?_)
  simp only [List.length_map] at hk hi
  simpa [List.getD_eq_getElem?_getD, List.getElem?_eq_getElem hk, List.getElem?_eq_getElem hi] using e
/-- Of what is sorted it is told by two that stand side by side. -/
theorem dup_sorted {d : List Fx} (hs : d.Pairwise (fun a b => ¬ b.key < a.key)) (h : ∀ i, i + 1 < d.length → ¬ (d.getD i default).op = (d.getD (i + 1) default).op) : dupB d = false := by
  have hp : d.Pairwise (fun a b => a.key < b.key) := by
    rw [List.pairwise_iff_getElem] at hs ⊢
    have one : ∀ i (hi : i + 1 < d.length), (d[i]).key < (d[i + 1]).key := by
      intro i hi
      have h1 := hs i (i + 1) (by omega) hi (by omega)
      have h2 := h i hi
      rw [op_key] at h2
      simp only [List.getD_eq_getElem?_getD, List.getElem?_eq_getElem hi, List.getElem?_eq_getElem (show i < d.length by omega), Option.getD_some] at h2
      rcases List.le_iff_lt_or_eq.1 (List.not_lt.1 h1) with h | h
      · exact h
      · exact absurd h h2
    intro i j hi hj hij
    obtain ⟨n, rfl⟩ : ∃ n, j = i + 1 + n := ⟨j - (i + 1), by omega⟩
    induction n with
    | zero => exact one i hj
    | succ n ih => exact List.lt_trans (ih (by omega) (by omega)) (one (i + 1 + n) (by omega))
  refine dup_none fun i k hki hi e => ?_
  rw [List.pairwise_iff_getElem] at hp
  have := hp k i (by omega) hi hki
  rw [op_key] at e
  simp only [List.getD_eq_getElem?_getD, List.getElem?_eq_getElem hi, List.getElem?_eq_getElem (show k < d.length by omega), Option.getD_some] at e
  rw [e] at this
  exact List.lt_irrefl _ this
theorem nodup_of {l : List Fx} (h : dupB l = false) : (l.map Fx.key).Nodup := by
  unfold dupB at h
  rw [Bool.not_eq_false', decide_eq_true_iff] at h
  exact h
theorem dup_of {l : List Fx} (h : (l.map Fx.key).Nodup) : dupB l = false := by
  unfold dupB
  rw [Bool.not_eq_false', decide_eq_true_iff]
  exact h
/-- The first of an operator. -/
def find (l : List Fx) (op : ByteArray) : Option Fx := l.find? (fun f => decide (f.op = op))
/-- One's place: the first at which it is told; else how many there are. -/
theorem find_at (l : List Fx) (op : ByteArray) (k : Nat) (hk : k < l.length) (h : (l.getD k default).op = op) (h' : ∀ j, j < k → ¬ (l.getD j default).op = op) : find l op = some (l.getD k default) := by
  induction l generalizing k with
  | nil => simp at hk
  | cons x l ih =>
    unfold find
    rw [List.find?_cons]
    cases k with
    | zero => simp at h; simp [h]
    | succ k =>
      have h0 := h' 0 (by omega)
      simp at h0
      have : decide (x.op = op) = false := by simpa using h0
      rw [this]
      exact ih k (by simpa using hk) (by simpa using h) fun j hj => by simpa using h' (j + 1) (by omega)
theorem find_none (l : List Fx) (op : ByteArray) (h : ∀ j, j < l.length → ¬ (l.getD j default).op = op) : find l op = none := by
  unfold find
  rw [List.find?_eq_none]
  intro x hx
  obtain ⟨j, hj, rfl⟩ := List.getElem_of_mem hx
  simpa [List.getD_eq_getElem?_getD, List.getElem?_eq_getElem hj] using h j hj
theorem find_mem {l : List Fx} {op : ByteArray} {f : Fx} (h : find l op = some f) : f ∈ l ∧ f.op = op := by
  unfold find at h
  exact ⟨List.mem_of_find?_eq_some h, by simpa using List.find?_some h⟩
end Go.Proofs.FixMath
