/- Texts of this seat, one behind the other: DgA, DgB. -/
import Derived.Test.YtncifeeinogcnaaDoorKn20
import Derived.Test.YtncifeeinogcnaaDoorKn29
/- Check, as the document tells it: mathematics. -/
set_option maxRecDepth 100000
namespace Go.Proofs.YtncifeeinogcnaaDoor
open Go.Shelf Go.RowKit Go.Lib Go.Sort Go.Maps Go.Proofs.TreeMath Go.Proofs.LexMath

def isD (n : Nd) (d : Dt) : Bool := decide (d.name = n.text) && decide (d.params = n.kids)
def knownB (ds : List Dt) (n : Nd) : Bool := ds.any (isD n)
theorem any_take_false {α : Type} [Inhabited α] (p : α → Bool) (l : List α) (i : Nat) (hi : i < l.length) (h : (l.take i).any p = false) (hx : p (l.getD i default) = false) : (l.take (i + 1)).any p = false := by
  rw [List.take_succ_eq_append_getElem hi, List.any_append, h]
  rw [List.getD_eq_getElem?_getD, List.getElem?_eq_getElem hi] at hx
  simpa using hx
theorem any_of_get {α : Type} [Inhabited α] (p : α → Bool) (l : List α) (i : Nat) (hi : i < l.length) (hx : p (l.getD i default) = true) : l.any p = true := List.any_eq_true.2 ⟨_, getD_mem l i hi, hx⟩
theorem any_of_all {α : Type} (p : α → Bool) (l : List α) (i : Nat) (hi : i = l.length) (h : (l.take i).any p = false) : l.any p = false := by rw [hi, List.take_length] at h; exact h
/-- All constructors' names. -/
def namesD (ds : List Dt) : List ByteArray := (pairsOf ds).map fun x => x.2.name
theorem namesD_take (ds : List Dt) (i : Nat) (hi : i < ds.length) : namesD (ds.take (i + 1)) = namesD (ds.take i) ++ (ds.getD i default).cons.map (·.name) := by
  unfold namesD
  rw [pairs_take ds i hi, List.map_append, List.map_map]
  rfl
theorem namesD_len (ds : List Dt) (k : Nat) (h : ∀ d ∈ ds, d.cons.length ≤ k) : (namesD ds).length ≤ ds.length * k := by
  unfold namesD
  rw [List.length_map]
  induction ds with
  | nil => simp [pairsOf]
  | cons d ds ih =>
    have h1 := ih fun x hx => h x (List.mem_cons_of_mem _ hx)
    have h2 := h d (List.mem_cons_self ..)
    have e : pairsOf (d :: ds) = (d.cons.map fun c => (d, c)) ++ pairsOf ds := by unfold pairsOf; rw [List.flatMap_cons]
    rw [e, List.length_append, List.length_map, List.length_cons, Nat.succ_mul]
    omega
theorem addB_same (acc : List ByteArray) (s : ByteArray) (h : s ∈ acc) : addB acc s = acc := by
  unfold addB
  rw [if_pos (List.any_eq_true.2 ⟨s, h, by simp⟩)]
theorem addB_new (acc : List ByteArray) (s : ByteArray) (h : s ∉ acc) : addB acc s = acc ++ [s] := by
  unfold addB
  rw [if_neg]
  rw [List.any_eq_true]
  rintro ⟨x, hx, e⟩
  simp only [decide_eq_true_eq] at e
  exact h (e ▸ hx)
theorem mem_addB (acc : List ByteArray) (s : ByteArray) : s ∈ addB acc s := by
  by_cases h : s ∈ acc
  · rw [addB_same acc s h]; exact h
  · rw [addB_new acc s h]; simp
theorem foldB_le : ∀ (l acc : List ByteArray), (l.foldl addB acc).length ≤ acc.length + l.length := by
  intro l
  induction l with
  | nil => intro acc; simp
  | cons s l ih =>
    intro acc
    rw [List.foldl_cons]
    have := ih (addB acc s)
    have h2 : (addB acc s).length ≤ acc.length + 1 := by
      by_cases h : s ∈ acc
      · rw [addB_same acc s h]; omega
      · rw [addB_new acc s h]; simp
    rw [List.length_cons]
    omega
theorem foldB_lt : ∀ (l acc : List ByteArray), acc.Nodup → ((l.foldl addB acc).length < acc.length + l.length ↔ ¬ (acc ++ l).Nodup) := by
  intro l
  induction l with
  | nil => intro acc h; simp [h]
  | cons s l ih =>
    intro acc h
    rw [List.foldl_cons, List.length_cons]
    by_cases hm : s ∈ acc
    · rw [addB_same acc s hm]
      have := foldB_le l acc
      constructor
      · intro _ hn
        rw [List.nodup_append] at hn
        exact hn.2.2 s hm s (List.mem_cons_self ..) rfl
      · intro _; omega
    · rw [addB_new acc s hm]
      have hn : (acc ++ [s]).Nodup := by
        rw [List.nodup_append]
        refine ⟨h, by simp, fun a ha b hb => ?_⟩
        rw [List.mem_singleton] at hb
        intro e; exact hm (hb ▸ e ▸ ha)
      have := ih (acc ++ [s]) hn
      rw [List.length_append, List.length_singleton, List.append_assoc, List.singleton_append] at this
      rw [← this]
      omega
theorem onceB_lt (l : List ByteArray) : (onceB l).length < l.length ↔ ¬ l.Nodup := by
  have := foldB_lt l [] List.nodup_nil
  simpa [onceB] using this
theorem fold_rep (s : ByteArray) (rest : List ByteArray) : ∀ (k : Nat) (acc : List ByteArray), s ∈ acc → (List.replicate k s ++ rest).foldl addB acc = rest.foldl addB acc := by
  intro k
  induction k with
  | zero => intro acc _; rfl
  | succ k ih =>
    intro acc h
    rw [List.replicate_succ, List.cons_append, List.foldl_cons, addB_same acc s h]
    exact ih acc h
theorem types_once (ds : List Dt) (h : ∀ d ∈ ds, 1 ≤ d.cons.length) : ∀ acc, ((pairsOf ds).map fun x => x.1.name).foldl addB acc = (ds.map (·.name)).foldl addB acc := by
  induction ds with
  | nil => intro acc; rfl
  | cons d ds ih =>
    intro acc
    have e : (pairsOf (d :: ds)).map (fun x => x.1.name) = List.replicate d.cons.length d.name ++ (pairsOf ds).map fun x => x.1.name := by
      unfold pairsOf
      rw [List.flatMap_cons, List.map_append, List.map_map]
      congr 1
      rw [List.eq_replicate_iff]
      refine ⟨by simp, fun b hb => ?_⟩
      obtain ⟨c, _, rfl⟩ := List.mem_map.1 hb
      rfl
    rw [e, List.map_cons, List.foldl_cons]
    obtain ⟨k, hk⟩ : ∃ k, d.cons.length = k + 1 := ⟨d.cons.length - 1, by have := h d (List.mem_cons_self ..); omega⟩
    rw [hk, List.replicate_succ, List.cons_append, List.foldl_cons, fold_rep _ _ _ _ (mem_addB acc d.name)]
    exact ih (fun x hx => h x (List.mem_cons_of_mem _ hx)) _
theorem repD_eq (ds : List Dt) (h : ∀ d ∈ ds, 1 ≤ d.cons.length) : repD ds = (decide (¬ (ds.map (·.name)).Nodup) || decide (¬ (namesD ds).Nodup)) := by
  unfold repD
  congr 1
  · refine decide_eq_decide.2 ?_
    have := onceB_lt (ds.map (·.name))
    unfold onceB at this ⊢
    rw [types_once ds h [], ← this, List.length_map]
  · refine decide_eq_decide.2 ?_
    have := onceB_lt (namesD ds)
    unfold namesD at this ⊢
    rw [List.length_map] at this
    exact this
/-- What is not declared, as the document tells it. -/
def lackN (ds : List Dt) (n : Nd) : Bool := decide (n.kind = 32) && nameB n.text && !knownB ds n
def lackR (ds : List Dt) : Bool := ds.any fun d => d.cons.any fun c => c.args.any fun t => t.any (lackN ds)
theorem env_at : ∀ (ds : List Dt) (f : Env) (s : ByteArray), (ds.map (·.name)).Nodup → (ds.foldl (fun f d => setE f d.name d.params) f) s = match ds.find? (fun d => decide (d.name = s)) with | some d => some d.params | none => f s := by
  intro ds
  induction ds with
  | nil => intro f s _; rfl
  | cons d ds ih =>
    intro f s hn
    rw [List.map_cons, List.nodup_cons] at hn
    rw [List.foldl_cons, ih _ _ hn.2, List.find?_cons]
    by_cases hd : d.name = s
    · have h1 : ds.find? (fun d => decide (d.name = s)) = none := by
        rw [List.find?_eq_none]
        intro x hx
        simp only [decide_eq_true_eq]
        intro e
        exact hn.1 (List.mem_map.2 ⟨x, hx, e.trans hd.symm⟩)
      rw [h1]
      simp only [hd, decide_true]
      unfold setE
      rw [if_pos rfl]
    · simp only [hd, decide_false]
      cases ds.find? (fun d => decide (d.name = s)) with
      | some x => rfl
      | none => simp only; unfold setE; rw [if_neg hd]
theorem names_inj : ∀ (ds : List Dt), (ds.map (·.name)).Nodup → ∀ x y, x ∈ ds → y ∈ ds → x.name = y.name → x = y := by
  intro ds
  induction ds with
  | nil => intro _ x y hx; simp at hx
  | cons d ds ih =>
    intro hn x y hx hy e
    rw [List.map_cons, List.nodup_cons] at hn
    rcases List.mem_cons.1 hx with hx1 | hx1
    · rcases List.mem_cons.1 hy with hy1 | hy1
      · rw [hx1, hy1]
      · exact absurd (List.mem_map.2 ⟨y, hy1, by rw [← hx1, e]⟩) hn.1
    · rcases List.mem_cons.1 hy with hy1 | hy1
      · exact absurd (List.mem_map.2 ⟨x, hx1, by rw [← hy1, e]⟩) hn.1
      · exact ih hn.2 x y hx1 hy1 e
theorem env0_name {s : ByteArray} (h : nameB s = true) : env0 s = none := by
  have h1 : s ≠ sArrow := fun e => by rw [e] at h; exact absurd h (by decide +kernel)
  have h2 : s ≠ sInt := fun e => by rw [e] at h; exact absurd h (by decide +kernel)
  have h3 : s ≠ sText := fun e => by rw [e] at h; exact absurd h (by decide +kernel)
  have h4 : s ≠ sRef := fun e => by rw [e] at h; exact absurd h (by decide +kernel)
  unfold env0 setE
  rw [if_neg (fun e => h4 e.symm), if_neg (fun e => h3 e.symm), if_neg (fun e => h2 e.symm), if_neg (fun e => h1 e.symm)]
theorem lack_node (ds : List Dt) (n : Nd) (hr : rightN n = true) (hnd : (ds.map (·.name)).Nodup) (hds : ∀ d ∈ ds, nameB d.name = true) : forP (envD ds) n = lackN ds n := by
  unfold forP lackN
  by_cases hk : n.kind = 32
  · rw [decide_eq_true hk, Bool.true_and, Bool.true_and]
    have hr2 : conB n.text n.kids = true := by
      unfold rightN at hr
      rw [if_neg (by omega), if_pos hk] at hr
      simp only [Bool.and_eq_true] at hr
      exact hr.2
    unfold envD
    rw [env_at ds env0 n.text hnd]
    cases hf : ds.find? (fun d => decide (d.name = n.text)) with
    | some d =>
      have hm := List.mem_of_find?_eq_some hf
      have he := List.find?_some hf
      simp only [decide_eq_true_eq] at he
      have hb : nameB n.text = true := by rw [← he]; exact hds d hm
      rw [hb, Bool.true_and]
      simp only [Option.isSome_some, Bool.not_true, Bool.false_or, Option.getD_some]
      have : knownB ds n = decide (d.params = n.kids) := by
        rw [Bool.eq_iff_iff]
        unfold knownB isD
        simp only [List.any_eq_true, Bool.and_eq_true, decide_eq_true_eq]
        constructor
        · rintro ⟨x, hx, h1, h2⟩
          obtain rfl : x = d := by
            exact names_inj ds hnd x d hx hm (h1.trans he.symm)
          exact h2
        · intro h; exact ⟨d, hm, he, h⟩
      rw [this]
      by_cases h : d.params = n.kids <;> simp [h]
    | none =>
      simp only
      have hno : knownB ds n = false := by
        unfold knownB isD
        rw [List.any_eq_false]
        intro x hx
        have := List.find?_eq_none.1 hf x hx
        simp only [decide_eq_true_eq] at this
        simp [this]
      rw [hno, Bool.not_false, Bool.and_true]
      cases hb : nameB n.text with
      | true => rw [env0_name hb]; rfl
      | false =>
        unfold conB at hr2
        unfold env0 setE
        split at hr2
        · rename_i h; rw [h]; simp only [beq_iff_eq] at hr2; rw [hr2]; decide +kernel
        · rename_i h1
          split at hr2
          · rename_i h; rw [h]; simp only [beq_iff_eq] at hr2; rw [hr2]; decide +kernel
          · rename_i h2
            split at hr2
            · rename_i h; rw [h]; simp only [beq_iff_eq] at hr2; rw [hr2]; decide +kernel
            · rename_i h3
              split at hr2
              · rename_i h; rw [h]; simp only [beq_iff_eq] at hr2; rw [hr2]; decide +kernel
              · rw [hb, Bool.and_false] at hr2
                simp at hr2
  · rw [decide_eq_false hk, Bool.false_and, Bool.false_and, Bool.false_and]
theorem any_congr' {α : Type} (l : List α) (p q : α → Bool) (h : ∀ x ∈ l, p x = q x) : l.any p = l.any q := by
  rw [Bool.eq_iff_iff, List.any_eq_true, List.any_eq_true]
  exact ⟨fun ⟨x, hx, e⟩ => ⟨x, hx, by rw [← h x hx]; exact e⟩, fun ⟨x, hx, e⟩ => ⟨x, hx, by rw [h x hx]; exact e⟩⟩
theorem rightD_cons' {d : Dt} (h : rightD d = true) : ∀ c ∈ d.cons, rightC d.params c = true := by
  unfold rightD at h
  simp only [Bool.and_eq_true] at h
  exact List.all_eq_true.1 h.2
theorem lack_eq (ds : List Dt) (hr : ∀ d ∈ ds, rightD d = true) (hnd : (ds.map (·.name)).Nodup) : lackD ds = lackR ds := by
  have hds : ∀ d ∈ ds, nameB d.name = true := fun d hd => by
    have := hr d hd
    unfold rightD at this
    simp only [Bool.and_eq_true] at this
    exact this.1.1.1.1.1
  unfold lackD lackR
  refine any_congr' ds _ _ fun d hd => any_congr' d.cons _ _ fun c hc => ?_
  unfold hasP
  refine any_congr' c.args _ _ fun t ht => any_congr' t _ _ fun n hn => ?_
  have h1 := rightD_cons' (hr d hd) c hc
  unfold rightC at h1
  simp only [Bool.and_eq_true] at h1
  have h2 := List.all_eq_true.1 h1.1.2 t ht
  unfold tyB at h2
  simp only [Bool.and_eq_true] at h2
  exact lack_node ds n (List.all_eq_true.1 h2.2 n hn) hnd hds
/-- What the document's Check answers. -/
def rckD (ds : List Dt) : Int := if (decide (60 < ds.length) || ds.any fun d => !rightD d) = true then 100 else if (decide (¬ (ds.map (·.name)).Nodup) || decide (¬ (namesD ds).Nodup)) = true then 101 else if lackR ds = true then 102 else 0
theorem rckD_eq (ds : List Dt) : rckD ds = checkD ds := by
  unfold rckD checkD
  by_cases h : (decide (60 < ds.length) || ds.any fun d => !rightD d) = true
  · rw [if_pos h, if_pos h]
  · rw [if_neg h, if_neg h]
    simp only [Bool.or_eq_true, not_or, Bool.not_eq_true, List.any_eq_false] at h
    have hr : ∀ d ∈ ds, rightD d = true := fun d hd => by have := h.2 d hd; simpa using this
    rw [repD_eq ds fun d hd => (rightD_le (hr d hd)).2.2.1]
    by_cases h2 : (decide (¬ (ds.map (·.name)).Nodup) || decide (¬ (namesD ds).Nodup)) = true
    · rw [if_pos h2, if_pos h2]
    · rw [if_neg h2, if_neg h2, lack_eq ds hr]
      simp only [Bool.or_eq_true, not_or, decide_eq_true_eq, Classical.not_not] at h2
      exact h2.1
end Go.Proofs.YtncifeeinogcnaaDoor
/- What may be stays so with one more: mathematics. -/
set_option maxRecDepth 100000
namespace Go.Proofs.YtncifeeinogcnaaDoor
open Go.Shelf Go.RowKit Go.Lib Go.Sort Go.Maps Go.Proofs.TreeMath Go.Proofs.LexMath

theorem rck_cases (ds : List Dt) : (60 < ds.length ∨ ∃ d ∈ ds, rightD d = false) ∧ rckD ds = 100 ∨ (ds.length ≤ 60 ∧ ∀ d ∈ ds, rightD d = true) ∧ ((¬ (ds.map (·.name)).Nodup ∨ ¬ (namesD ds).Nodup) ∧ rckD ds = 101 ∨ ((ds.map (·.name)).Nodup ∧ (namesD ds).Nodup) ∧ (lackR ds = true ∧ rckD ds = 102 ∨ lackR ds = false ∧ rckD ds = 0)) := by
  unfold rckD
  by_cases h : (decide (60 < ds.length) || ds.any fun d => !rightD d) = true
  · left
    refine ⟨?_, if_pos h⟩
    rw [Bool.or_eq_true] at h
    rcases h with h | h
    · exact .inl (by simpa using h)
    · obtain ⟨d, hd, e⟩ := List.any_eq_true.1 h
      exact .inr ⟨d, hd, by simpa using e⟩
  · right
    rw [if_neg h]
    simp only [Bool.or_eq_true, not_or, Bool.not_eq_true, List.any_eq_false, decide_eq_false_iff_not] at h
    refine ⟨⟨by omega, fun d hd => by have := h.2 d hd; simpa using this⟩, ?_⟩
    by_cases h2 : (decide (¬ (ds.map (·.name)).Nodup) || decide (¬ (namesD ds).Nodup)) = true
    · left
      refine ⟨?_, if_pos h2⟩
      rw [Bool.or_eq_true, decide_eq_true_eq, decide_eq_true_eq] at h2
      exact h2
    · right
      rw [if_neg h2]
      simp only [Bool.or_eq_true, not_or, decide_eq_true_eq, Classical.not_not] at h2
      refine ⟨h2, ?_⟩
      cases hl : lackR ds with
      | true => exact .inl ⟨rfl, by simp⟩
      | false => exact .inr ⟨rfl, by simp⟩
theorem known_more (ds : List Dt) (d : Dt) (n : Nd) : knownB (ds ++ [d]) n = (knownB ds n || knownB [d] n) := by unfold knownB; rw [List.any_append]
theorem lackN_more {ds : List Dt} {d : Dt} {n : Nd} (h : lackN (ds ++ [d]) n = true) : lackN ds n = true ∧ lackN [d] n = true := by
  unfold lackN at h ⊢
  rw [known_more] at h
  simp only [Bool.and_eq_true, Bool.not_eq_true', Bool.or_eq_false_iff] at h ⊢
  exact ⟨⟨h.1, h.2.1⟩, h.1, h.2.2⟩
theorem lackR_more {ds : List Dt} {d : Dt} (h0 : lackR ds = false) (h : lackR (ds ++ [d]) = true) : lackR [d] = true := by
  unfold lackR at h
  rw [List.any_append, Bool.or_eq_true] at h
  rcases h with h | h
  · obtain ⟨x, hx, h⟩ := List.any_eq_true.1 h
    obtain ⟨c, hc, h⟩ := List.any_eq_true.1 h
    obtain ⟨t, ht, h⟩ := List.any_eq_true.1 h
    obtain ⟨n, hn, h⟩ := List.any_eq_true.1 h
    have : lackR ds = true := List.any_eq_true.2 ⟨x, hx, List.any_eq_true.2 ⟨c, hc, List.any_eq_true.2 ⟨t, ht, List.any_eq_true.2 ⟨n, hn, (lackN_more h).1⟩⟩⟩⟩
    rw [h0] at this; simp at this
  · obtain ⟨x, hx, h⟩ := List.any_eq_true.1 h
    obtain ⟨c, hc, h⟩ := List.any_eq_true.1 h
    obtain ⟨t, ht, h⟩ := List.any_eq_true.1 h
    obtain ⟨n, hn, h⟩ := List.any_eq_true.1 h
    exact List.any_eq_true.2 ⟨x, hx, List.any_eq_true.2 ⟨c, hc, List.any_eq_true.2 ⟨t, ht, List.any_eq_true.2 ⟨n, hn, (lackN_more h).2⟩⟩⟩⟩
theorem names_more (ds : List Dt) (d : Dt) : namesD (ds ++ [d]) = namesD ds ++ namesD [d] := by unfold namesD pairsOf; rw [List.flatMap_append, List.map_append]
/-- With one more. -/
theorem check_more (ds : List Dt) (d : Dt) (h : checkD ds = 0) : ((checkD [d] = 100 ∨ 60 < ds.length + 1) ∧ checkD (ds ++ [d]) = 100) ∨ (checkD [d] ≠ 100 ∧ ds.length + 1 ≤ 60 ∧ (checkD (ds ++ [d]) = 0 ∨ checkD (ds ++ [d]) = 101 ∨ checkD (ds ++ [d]) = 102 ∧ checkD [d] = 102)) := by
  rw [← rckD_eq] at h
  rw [← rckD_eq [d], ← rckD_eq (ds ++ [d])]
  have hl : (ds ++ [d]).length = ds.length + 1 := by simp
  rcases rck_cases ds with ⟨_, e⟩ | ⟨⟨r1, r2⟩, ⟨_, e⟩ | ⟨⟨n1, n2⟩, ⟨_, e⟩ | ⟨l0, e⟩⟩⟩
  · rw [h] at e; simp at e
  · rw [h] at e; simp at e
  · rw [h] at e; simp at e
  rcases rck_cases [d] with ⟨a, f⟩ | ⟨⟨a1, a2⟩, hf⟩
  · left
    refine ⟨.inl f, ?_⟩
    rcases rck_cases (ds ++ [d]) with ⟨_, e2⟩ | ⟨⟨b1, b2⟩, _⟩
    · exact e2
    · rcases a with a | ⟨x, hx, a⟩
      · simp at a
      · rw [List.mem_singleton] at hx
        subst hx
        rw [b2 x (by simp)] at a
        simp at a
  · have fn : rckD [d] ≠ 100 := by
      rcases hf with ⟨_, f⟩ | ⟨_, ⟨_, f⟩ | ⟨_, f⟩⟩ <;> rw [f] <;> decide
    by_cases h60 : 60 < ds.length + 1
    · left
      refine ⟨.inr h60, ?_⟩
      rcases rck_cases (ds ++ [d]) with ⟨_, e2⟩ | ⟨⟨b1, b2⟩, _⟩
      · exact e2
      · omega
    · right
      refine ⟨fn, by omega, ?_⟩
      rcases rck_cases (ds ++ [d]) with ⟨b, _⟩ | ⟨_, ⟨_, e2⟩ | ⟨⟨c1, c2⟩, ⟨l2, e2⟩ | ⟨_, e2⟩⟩⟩
      · exfalso
        rcases b with b | ⟨x, hx, b⟩
        · omega
        · rcases List.mem_append.1 hx with hx | hx
          · rw [r2 x hx] at b; simp at b
          · rw [a2 x hx] at b; simp at b
      · exact .inr (.inl e2)
      · refine .inr (.inr ⟨e2, ?_⟩)
        have l3 := lackR_more l0 l2
        rw [names_more, List.nodup_append] at c2
        rcases hf with ⟨b, _⟩ | ⟨_, ⟨_, f⟩ | ⟨l4, _⟩⟩
        · exfalso
          rcases b with b | b
          · exact b (by simp)
          · exact b c2.2.1
        · exact f
        · rw [l4] at l3; simp at l3
      · exact .inl e2
end Go.Proofs.YtncifeeinogcnaaDoor
