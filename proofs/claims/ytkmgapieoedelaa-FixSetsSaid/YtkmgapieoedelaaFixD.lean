/- The mathematics of fixities, fourth part: one more set, in either order; each operator's parts bind closer; one operator over and over. -/
import Derived.Test.YtkmgapieoedelaaFixC
namespace Go.Proofs.FixMath

/-- Whether they may be, together. -/
def checkL (R : Fx → Bool) (l : List Fx) : Int := if 400 < l.length ∨ l.any (fun f => !R f) = true then 40 else if dupB l = true then 41 else 0
theorem check_ok {R : Fx → Bool} {l : List Fx} (h : checkL R l = 0) : l.length ≤ 400 ∧ (∀ f ∈ l, R f = true) ∧ (l.map Fx.key).Nodup := by
  unfold checkL at h
  split at h
  · simp at h
  · rename_i h1
    split at h
    · simp at h
    · rename_i h2
      refine ⟨by omega, fun f hf => ?_, nodup_of (by simpa using h2)⟩
      have : ¬ l.any (fun f => !R f) = true := fun e => h1 (.inr e)
      simp at this
      exact this f hf
theorem check_of {R : Fx → Bool} {l : List Fx} (h1 : l.length ≤ 400) (h2 : ∀ f ∈ l, R f = true) (h3 : (l.map Fx.key).Nodup) : checkL R l = 0 := by
  unfold checkL
  rw [if_neg, if_neg]
  · rw [dup_of h3]; simp
  · intro h
    rcases h with h | h
    · omega
    · simp at h
      obtain ⟨f, hf, e⟩ := h
      rw [h2 f hf] at e; cases e
/-- All but one, and that. -/
def allL (l : List Fx) (f : Fx) : List Fx := f :: l.filter (fun g => !decide (g.op = f.op))
def setL (R : Fx → Bool) (l : List Fx) (f : Fx) : List Fx × Int :=
  if ¬ checkL R l = 0 then ([], checkL R l)
  else if R f = false then ([], 40)
  else if 400 < (allL l f).length then ([], 40)
  else (sortR (allL l f), 0)
theorem allL_le (l : List Fx) (f : Fx) : (allL l f).length ≤ l.length + 1 := by
  unfold allL
  have := List.length_filter_le (fun g => !decide (g.op = f.op)) l
  simp; omega
theorem allL_nodup {l : List Fx} (f : Fx) (h : (l.map Fx.key).Nodup) : ((allL l f).map Fx.key).Nodup := by
  unfold allL
  rw [List.map_cons, List.nodup_cons]
  constructor
  · intro hm
    obtain ⟨g, hg, e⟩ := List.mem_map.1 hm
    have := (List.mem_filter.1 hg).2
    simp [op_key.2 e] at this
  · exact h.sublist (List.filter_sublist.map _)
theorem allL_right {R : Fx → Bool} {l : List Fx} {f : Fx} (h : ∀ g ∈ l, R g = true) (hf : R f = true) : ∀ g ∈ allL l f, R g = true := by
  intro g hg
  rcases List.mem_cons.1 hg with rfl | hg
  · exact hf
  · exact h g (List.mem_filter.1 hg).1
theorem set_ok {R : Fx → Bool} {l : List Fx} {f : Fx} (h : checkL R l = 0) (hf : R f = true) (hl : (allL l f).length ≤ 400) : setL R l f = (sortR (allL l f), 0) := by
  unfold setL
  rw [if_neg (by simp [h]), if_neg (by simp [hf]), if_neg (by omega)]
theorem set_bad {R : Fx → Bool} {l : List Fx} {f : Fx} (h : ¬ checkL R l = 0 ∨ R f = false) : (setL R l f).1 = [] ∧ ¬ (setL R l f).2 = 0 := by
  unfold setL
  by_cases h1 : checkL R l = 0
  · have h2 : R f = false := by rcases h with h | h; exact absurd h1 h; exact h
    rw [if_neg (by simp [h1]), if_pos h2]
    simp
  · rw [if_pos h1]
    exact ⟨rfl, h1⟩
theorem sort_check {R : Fx → Bool} {l : List Fx} (h1 : l.length ≤ 400) (h2 : ∀ f ∈ l, R f = true) (h3 : (l.map Fx.key).Nodup) : checkL R (sortR l) = 0 :=
  check_of (by rw [sortR_len]; exact h1) (fun f hf => h2 f ((sortR_perm l).mem_iff.1 hf)) (((sortR_perm l).map Fx.key).nodup_iff.2 h3)
theorem sortR_congr {a b : List Fx} (h : (a.map Fx.key).Nodup) (hp : a.Perm b) : sortR a = sortR b :=
  sorted_is b (sortR a) ((hp.map Fx.key).nodup_iff.1 h) ((sortR_perm a).trans hp) ((sortR_sorted a h).imp fun hab hba => List.lt_irrefl _ (List.lt_trans hab hba))
theorem allL_perm {a b : List Fx} (f : Fx) (h : a.Perm b) : (allL a f).Perm (allL b f) := (h.filter _).cons f
/-- Two that are set come to the same in either order. -/
theorem set_two {R : Fx → Bool} {l : List Fx} {f g : Fx} (hl : l.length ≤ 100) (hfg : ¬ f.op = g.op) :
    let a := setL R l f; let a' := setL R a.1 g; let b := setL R l g; let b' := setL R b.1 f
    (a.2 = 0 ∧ a'.2 = 0 ∧ b.2 = 0 ∧ b'.2 = 0 ∧ a'.1 = b'.1 ∧ checkL R a'.1 = 0) ∨ (¬ (a.2 = 0 ∧ a'.2 = 0) ∧ ¬ (b.2 = 0 ∧ b'.2 = 0)) := by
  intro a a' b b'
  by_cases hc : checkL R l = 0
  · by_cases hf : R f = true
    · by_cases hg : R g = true
      · obtain ⟨c1, c2, c3⟩ := check_ok hc
        have la := allL_le l f
        have lb := allL_le l g
        have ea : a = (sortR (allL l f), 0) := set_ok hc hf (by omega)
        have eb : b = (sortR (allL l g), 0) := set_ok hc hg (by omega)
        have ha : checkL R a.1 = 0 := by rw [ea]; exact sort_check (by omega) (allL_right c2 hf) (allL_nodup f c3)
        have hb : checkL R b.1 = 0 := by rw [eb]; exact sort_check (by omega) (allL_right c2 hg) (allL_nodup g c3)
        have la' := allL_le a.1 g
        have lb' := allL_le b.1 f
        have l1 : a.1.length ≤ 101 := by rw [ea]; simp only [sortR_len]; omega
        have l2 : b.1.length ≤ 101 := by rw [eb]; simp only [sortR_len]; omega
        have ea' : a' = (sortR (allL a.1 g), 0) := set_ok ha hg (by omega)
        have eb' : b' = (sortR (allL b.1 f), 0) := set_ok hb hf (by omega)
        obtain ⟨a1, a2, a3⟩ := check_ok ha
        refine .inl ⟨by rw [ea], by rw [ea'], by rw [eb], by rw [eb'], ?_, ?_⟩
        · rw [ea', eb']
          refine sortR_congr (allL_nodup g a3) ?_
          have p1 : (allL a.1 g).Perm (allL (allL l f) g) := by rw [ea]; exact allL_perm g (sortR_perm _)
          have p2 : (allL b.1 f).Perm (allL (allL l g) f) := by rw [eb]; exact allL_perm f (sortR_perm _)
          refine p1.trans (List.Perm.trans ?_ p2.symm)
          unfold allL
          rw [List.filter_cons_of_pos (by simp [hfg]), List.filter_cons_of_pos (by simp; exact fun e => hfg e.symm), List.filter_filter, List.filter_filter]
          rw [show (fun x : Fx => (!decide (x.op = g.op)) && (!decide (x.op = f.op))) = fun x => (!decide (x.op = f.op)) && (!decide (x.op = g.op)) from funext fun x => Bool.and_comm _ _]
          exact List.Perm.swap _ _ _
        · rw [ea']
          exact sort_check (by omega) (allL_right a2 hg) (allL_nodup g a3)
      · have hg : R g = false := by simpa using hg
        exact .inr ⟨fun h => (set_bad (R := R) (l := a.1) (.inr hg)).2 h.2, fun h => (set_bad (R := R) (l := l) (.inr hg)).2 h.1⟩
    · have hf : R f = false := by simpa using hf
      exact .inr ⟨fun h => (set_bad (R := R) (l := l) (.inr hf)).2 h.1, fun h => (set_bad (R := R) (l := b.1) (.inr hf)).2 h.2⟩
  · exact .inr ⟨fun h => (set_bad (R := R) (l := l) (.inl hc)).2 h.1, fun h => (set_bad (R := R) (l := l) (.inl hc)).2 h.1⟩

/-- The places go up. -/
theorem lows_up (low : Int) (p : List Fx) : ∀ i, (lows low i p).Pairwise (fun x y => x.1 < y.1) := by
  induction p with
  | nil => intro i; exact List.Pairwise.nil
  | cons f p ih =>
    intro i
    unfold lows
    split
    · refine List.pairwise_cons.2 ⟨fun y hy => ?_, ih (i + 1)⟩
      have := (lows_mem hy).1
      simp only
      omega
    · exact ih (i + 1)
theorem head_le {P : List (Nat × Int)} (h : P.Pairwise (fun x y => x.1 < y.1)) {x : Nat × Int} (hx : P.head? = some x) {y : Nat × Int} (hy : y ∈ P) : x.1 ≤ y.1 := by
  rcases P with _ | ⟨z, P⟩
  · simp at hx
  · simp at hx
    subst hx
    rcases List.mem_cons.1 hy with rfl | hy
    · exact Nat.le_refl _
    · exact Nat.le_of_lt ((List.pairwise_cons.1 h).1 y hy)
theorem last_ge {P : List (Nat × Int)} (h : P.Pairwise (fun x y => x.1 < y.1)) {x : Nat × Int} (hx : P.getLast? = some x) {y : Nat × Int} (hy : y ∈ P) : y.1 ≤ x.1 := by
  obtain ⟨Q, rfl⟩ : ∃ Q, P = Q ++ [x] := by
    have hne : P ≠ [] := by rintro rfl; simp at hx
    refine ⟨P.dropLast, ?_⟩
    rw [List.getLast?_eq_some_getLast hne] at hx
    simp at hx
    rw [← hx]
    exact (List.dropLast_concat_getLast hne).symm
  rcases List.mem_append.1 hy with hy | hy
  · exact Nat.le_of_lt ((List.pairwise_append.1 h).2.2 y hy x (by simp))
  · simp at hy; rw [hy]; exact Nat.le_refl _
/-- Of those of the least level: one that stands ahead of the root is left, as is the root; one that stands behind it is right. -/
theorem root_sides {p : List Fx} {i k : Nat} (hf : ∀ f ∈ p, fine f) (h : root p = some i) (hk : k < p.length) (he : (p.getD k default).level = (p.getD i default).level) :
    (k < i → (p.getD i default).side = -1 ∧ (p.getD k default).side = -1) ∧ (i < k → (p.getD i default).side = 1 ∧ (p.getD k default).side = 1) := by
  obtain ⟨hi, hl⟩ := root_lt h
  rw [hl] at he
  have mk := mem_lows (i := 0) hk he
  have mi := mem_lows (i := 0) hi hl
  rw [Nat.zero_add] at mk mi
  have up := lows_up (lowL p) p 0
  have fk := (hf _ (getD_mem hk)).2.2
  have fi := (hf _ (getD_mem hi)).2.2
  unfold root at h
  generalize lows (lowL p) 0 p = P at *
  unfold pick at h
  simp only [countP_all, decide_eq_true_eq] at h
  split at h
  · rename_i hc
    cases hq : P.getLast? with
    | none => rw [hq] at h; simp at h
    | some x =>
      rw [hq] at h; simp at h
      have := last_ge up hq mk
      have a := hc.2 _ mk
      have b := hc.2 _ mi
      simp only at this a b
      exact ⟨fun _ => ⟨by omega, by omega⟩, fun hlt => by omega⟩
  · rename_i hc
    split at h
    · cases h
    · rename_i hd
      cases hq : P.head? with
      | none => rw [hq] at h; simp at h
      | some x =>
        rw [hq] at h; simp at h
        have := head_le up hq mk
        simp only at this
        refine ⟨fun hlt => by omega, fun hlt => ?_⟩
        have h1 : 1 < P.length := by
          rcases P with _ | ⟨y, _ | ⟨z, P⟩⟩
          · simp at mk
          · simp at mk mi
            have := congrArg Prod.fst (mk.trans mi.symm)
            simp only at this
            omega
          · simp
        have hall : ∀ x ∈ P, 0 < x.2 := Classical.byContradiction fun hn => hd ⟨h1, hn⟩
        have a := hall _ mk
        have b := hall _ mi
        simp only at a b
        exact ⟨by omega, by omega⟩
/-- The first number of how a part binds: an operand, or its root. -/
theorem bind_head {p : List Fx} {fr : Int} {c : List Int} (h : bindL p fr = some c) : (p = [] ∧ c = [-1 - fr]) ∨ ∃ i a b, root p = some i ∧ c = (fr + i) :: (a ++ b) ∧ bindL (p.take i) fr = some a ∧ bindL (p.drop (i + 1)) (fr + i + 1) = some b := by
  by_cases hp : p = []
  · subst hp; rw [bindL_nil] at h; simp at h; exact .inl ⟨rfl, h.symm⟩
  · cases hr : root p with
    | none => rw [bindL_none fr hp hr] at h; cases h
    | some i =>
      rw [bindL_some fr hr] at h
      cases ha : bindL (p.take i) fr with
      | none => rw [ha] at h; simp at h
      | some a =>
        cases hb : bindL (p.drop (i + 1)) (fr + i + 1) with
        | none => rw [ha, hb] at h; simp at h
        | some b =>
          rw [ha, hb] at h
          simp at h
          exact .inr ⟨i, a, b, rfl, h.symm, ha, hb⟩
/-- A part's root binds closer than the whole's, or is of its level, and both are of that side. -/
theorem left_binds {p : List Fx} {i k : Nat} (hf : ∀ f ∈ p, fine f) (h : root p = some i) (hk : root (p.take i) = some k) :
    k < i ∧ (p.getD i default).level ≤ (p.getD k default).level ∧ ((p.getD k default).level = (p.getD i default).level → (p.getD i default).side = -1 ∧ (p.getD k default).side = -1) := by
  obtain ⟨hi, hl⟩ := root_lt h
  have hki := (root_lt hk).1
  have hki : k < i := by simp at hki; omega
  have hkp : k < p.length := by omega
  refine ⟨hki, ?_, fun he => (root_sides hf h hkp he).1 hki⟩
  rw [hl]
  exact (lowL_le p).2 _ (getD_mem hkp)
theorem right_binds {p : List Fx} {i k : Nat} (hf : ∀ f ∈ p, fine f) (h : root p = some i) (hk : root (p.drop (i + 1)) = some k) :
    i + 1 + k < p.length ∧ (p.getD i default).level ≤ (p.getD (i + 1 + k) default).level ∧ ((p.getD (i + 1 + k) default).level = (p.getD i default).level → (p.getD i default).side = 1 ∧ (p.getD (i + 1 + k) default).side = 1) := by
  obtain ⟨hi, hl⟩ := root_lt h
  have hki := (root_lt hk).1
  have hkp : i + 1 + k < p.length := by simp at hki; omega
  refine ⟨hkp, ?_, fun he => (root_sides hf h hkp he).2 (by omega)⟩
  rw [hl]
  exact (lowL_le p).2 _ (getD_mem hkp)

/-! One operator, over and over. -/
theorem lows_rep (f : Fx) (n : Nat) : ∀ i, lows f.level i (List.replicate n f) = (List.range n).map fun k => (i + k, f.side) := by
  induction n with
  | zero => intro i; rfl
  | succ n ih =>
    intro i
    rw [List.replicate_succ, List.range_succ_eq_map, List.map_cons, List.map_map]
    unfold lows
    rw [if_pos rfl, ih (i + 1)]
    simp only [Nat.add_zero, List.cons.injEq, true_and]
    exact List.map_congr_left fun k _ => by simp; omega
theorem root_rep (f : Fx) (n : Nat) (hf : fine f) : root (List.replicate (n + 1) f) = if n = 0 then some 0 else if f.side = -1 then some n else if f.side = 1 then some 0 else none := by
  have hl : lowL (List.replicate (n + 1) f) = f.level := by
    have := lowL_of (List.replicate (n + 1) f) 0 (by simp) (by simpa using hf.2.1) (by simp)
    simpa using this
  unfold root
  rw [hl, lows_rep]
  simp only [Nat.zero_add]
  have h3 := hf.2.2
  obtain ⟨P, hP⟩ : ∃ P, P = (List.range (n + 1)).map fun k => (k, f.side) := ⟨_, rfl⟩
  have hlen : P.length = n + 1 := by simp [hP]
  have hside : ∀ x ∈ P, x.2 = f.side := by
    intro x hx
    rw [hP] at hx
    obtain ⟨k, _, rfl⟩ := List.mem_map.1 hx
    rfl
  have hhead : P.head? = some (0, f.side) := by rw [hP, List.range_succ_eq_map]; rfl
  have hlast : P.getLast? = some (n, f.side) := by rw [hP, List.range_succ]; simp
  have h0P : (0, f.side) ∈ P := List.mem_of_mem_head? hhead
  rw [← hP]
  clear hP
  unfold pick
  simp only [countP_all, decide_eq_true_eq, hhead, hlast, Option.map_some]
  rw [hlen]
  by_cases h0 : n = 0
  · subst h0; simp
  · rw [if_neg h0]
    by_cases hm : f.side = -1
    · rw [if_pos hm, if_pos ⟨by omega, fun x hx => by rw [hside x hx]; omega⟩]
    · rw [if_neg hm, if_neg (by intro h; have := h.2 _ h0P; simp only at this; omega)]
      by_cases hp : f.side = 1
      · rw [if_pos hp, if_neg (by intro h; exact h.2 fun x hx => by rw [hside x hx]; omega)]
      · rw [if_neg hp, if_pos ⟨by omega, fun h => by have := h _ h0P; simp only at this; omega⟩]
theorem rep_left (f : Fx) (hf : fine f) (hs : f.side = -1) (n : Nat) : ∀ fr : Int, ∃ c, bindL (List.replicate n f) fr = some c ∧ ∀ k : Nat, k < n → c.getD k 0 = fr + n - 1 - k := by
  induction n with
  | zero => intro fr; exact ⟨_, bindL_nil fr, fun k hk => by omega⟩
  | succ n ih =>
    intro fr
    obtain ⟨c, hc, hk⟩ := ih fr
    have hr : root (List.replicate (n + 1) f) = some n := by
      rw [root_rep f n hf]
      split
      · rename_i h; rw [h]
      · simp
    have h := bindL_some fr hr
    rw [List.take_replicate, List.drop_replicate, show min n (n + 1) = n by omega, show n + 1 - (n + 1) = 0 by omega, hc, List.replicate_zero, bindL_nil] at h
    refine ⟨_, h, fun k hk' => ?_⟩
    have hl := bindL_len hc
    simp at hl
    cases k with
    | zero => simp; omega
    | succ k =>
      rw [List.getD_cons_succ, List.getD_eq_getElem?_getD, List.getElem?_append_left (by omega), ← List.getD_eq_getElem?_getD, hk k (by omega)]
      omega
theorem rep_right (f : Fx) (hf : fine f) (hs : f.side = 1) (n : Nat) : ∀ fr : Int, ∃ c, bindL (List.replicate n f) fr = some c ∧ ∀ k : Nat, k < n → c.getD (2 * k) 0 = fr + k ∧ c.getD (2 * k + 1) 0 = -1 - fr - k := by
  induction n with
  | zero => intro fr; exact ⟨_, bindL_nil fr, fun k hk => by omega⟩
  | succ n ih =>
    intro fr
    obtain ⟨c, hc, hk⟩ := ih (fr + 1)
    have hr : root (List.replicate (n + 1) f) = some 0 := by
      rw [root_rep f n hf]
      split
      · rfl
      · simp [hs]
    have h := bindL_some fr hr
    rw [List.take_replicate, List.drop_replicate, show min 0 (n + 1) = 0 by omega, show n + 1 - (0 + 1) = n by omega, List.replicate_zero, bindL_nil, show fr + ((0 : Nat) : Int) + 1 = fr + 1 by omega, hc] at h
    refine ⟨_, h, fun k hk' => ?_⟩
    cases k with
    | zero => simp
    | succ k =>
      have := hk k (by omega)
      rw [show 2 * (k + 1) = 2 * k + 1 + 1 by omega]
      simp only [List.getD_cons_succ, List.cons_append, List.nil_append]
      rw [this.1, this.2]
      omega
theorem rep_one (f : Fx) (hf : fine f) (n : Nat) (hn : n ≤ 1) (fr : Int) : ∃ c, bindL (List.replicate n f) fr = some c := by
  rcases Nat.le_one_iff_eq_zero_or_eq_one.1 hn with rfl | rfl
  · exact ⟨_, bindL_nil fr⟩
  · have hr : root (List.replicate (0 + 1) f) = some 0 := by rw [root_rep f 0 hf, if_pos rfl]
    exact ⟨_, by have := bindL_some fr hr; simpa [bindL_nil] using this⟩
theorem rep_none (f : Fx) (hf : fine f) (n : Nat) (h : f.side = 0) (hn : 1 < n) (fr : Int) : bindL (List.replicate n f) fr = none := by
  obtain ⟨n, rfl⟩ : ∃ k, n = k + 1 := ⟨n - 1, by omega⟩
  exact bindL_none fr (by simp) (by rw [root_rep f n hf, if_neg (by omega), if_neg (by omega), if_neg (by omega)])
end Go.Proofs.FixMath
