/- The laws' mathematics: parts, functions. -/
import Derived.Test.YtlalnmefppbebaaSynO
namespace Go.Proofs.Ytlalnmefppbebaa
open Go.RowKit Go.Proofs.TreeMath
theorem dup_nodup (l : List ByteArray) : dupB l = false ↔ l.Nodup := by
  induction l with
  | nil => simp [dupB]
  | cons x l ih =>
    rw [dupB, Bool.or_eq_false_iff, ih, List.nodup_cons]
    constructor
    · rintro ⟨h1, h2⟩
      refine ⟨fun hm => ?_, h2⟩
      rw [inB_iff.2 hm] at h1
      cases h1
    · rintro ⟨h1, h2⟩
      refine ⟨?_, h2⟩
      cases hx : inB x l with
      | false => rfl
      | true => exact absurd (inB_iff.1 hx) h1
theorem dup_left {a b : List ByteArray} (h : dupB (a ++ b) = false) : dupB a = false := (dup_nodup _).2 ((List.nodup_append.1 ((dup_nodup _).1 h)).1)
theorem dup_right {a b : List ByteArray} (h : dupB (a ++ b) = false) : dupB b = false := (dup_nodup _).2 ((List.nodup_append.1 ((dup_nodup _).1 h)).2.1)
theorem vars_one (n : Nd) (k : F) : varsF (.cons n k .nil) = (if n.kind = 22 then [n.text] else []) ++ varsF k := by simp [varsF]
theorem vars_cons (n : Nd) (k r : F) : varsF (.cons n k r) = varsF (.cons n k .nil) ++ varsF r := by simp [varsF]
/-- No tree that is (in) a pattern has a name twice. -/
def nd : F → (Nat → Int) → Nat → Prop
  | .nil, _, _ => True
  | .cons n k r, q, i => (q i ≠ 0 → dupB (varsF (.cons n k .nil)) = false) ∧ nd r q (i + 1)
theorem nd_vars (f : F) : dupB (varsF f) = false → ∀ q i, nd f q i := by
  induction f with
  | nil => intros; trivial
  | cons n k r _ hr =>
    intro h q i
    rw [vars_cons] at h
    exact ⟨fun _ => dup_left h, hr (dup_right h) q (i + 1)⟩
theorem nd_tw (f : F) : ∀ q i, (∀ j, q j = 0 ∨ q j = 1) → twF f q i = 0 → nd f q i := by
  induction f with
  | nil => intros; trivial
  | cons n k r _ hr =>
    intro q i hq h
    simp only [twF, or_eq_zero] at h
    refine ⟨fun h0 => ?_, hr q (i + 1) hq h.2.2⟩
    have h1 := (hq i).resolve_left h0
    have := h.1
    rw [h1] at this
    unfold twE at this
    cases hd : dupB (varsF (.cons n k .nil)) with
    | false => rfl
    | true => rw [hd] at this; simp at this
theorem nd_kids (n : Nd) (k : F) (p : Int) (h : p ≠ 0 → dupB (varsF (.cons n k .nil)) = false) (ht : twF k (belowP p n.kind) 0 = 0) : nd k (belowP p n.kind) 0 := by
  by_cases h0 : p = 0
  · refine nd_tw k _ 0 (fun j => ?_) ht
    unfold belowP
    rw [if_pos h0]
    split
    · exact .inr rfl
    · exact .inl rfl
  · have := h h0
    rw [vars_one] at this
    exact nd_vars k (dup_right this) _ _
/-- A tree within a forest that is right: it is right at its place. -/
theorem part_at (f : F) : f.ok → ∀ (q : Nat → Int) (i a : Nat), a < f.sz → (∀ j, 0 ≤ q j ∧ q j ≤ 2) → chkF f q i = 0 → twF f q i = 0 → nd f q i →
    ∃ (n : Nd) (k : F) (pre post : List Nd) (p : Int), f.flat = pre ++ (n :: (k.flat ++ post)) ∧ pre.length = a ∧ n.kids = k.cnt ∧ k.ok ∧ 0 ≤ p ∧ p ≤ 2 ∧ faultE n (headK k) p = 0 ∧ chkF k (belowP p n.kind) 0 = 0 ∧ twE p (varsF (.cons n k .nil)) = 0 ∧ twF k (belowP p n.kind) 0 = 0 ∧ (p ≠ 0 → dupB (varsF (.cons n k .nil)) = false) ∧ 1 + deepF k ≤ deepF f := by
  induction f with
  | nil => intro _ q i a h; simp [F.sz] at h
  | cons n k r hk hr =>
    rintro ⟨h1, h2, h3⟩ q i a ha hq hc ht hn
    simp only [chkF, or_eq_zero] at hc
    simp only [twF, or_eq_zero] at ht
    obtain ⟨c1, c2, c3⟩ := hc
    obtain ⟨t1, t2, t3⟩ := ht
    obtain ⟨n1, n2⟩ := hn
    simp only [F.sz] at ha
    by_cases a0 : a = 0
    · subst a0
      exact ⟨n, k, [], r.flat, q i, by simp [F.flat], rfl, h1, h2, (hq i).1, (hq i).2, c1, c2, t1, t2, n1, by simp only [deepF]; omega⟩
    · by_cases ak : a ≤ k.sz
      · obtain ⟨m, kk, pre, post, p, e1, e2, rest⟩ := hk h2 (belowP (q i) n.kind) 0 (a - 1) (by omega) (fun j => belowP_range _ _ _) c2 t2 (nd_kids n k (q i) n1 t2)
        obtain ⟨r1, r2, r3, r4, r5, r6, r7, r8, r9, r10⟩ := rest
        exact ⟨m, kk, n :: pre, post ++ r.flat, p, by simp [F.flat, e1], by simp; omega, r1, r2, r3, r4, r5, r6, r7, r8, r9, by simp only [deepF]; omega⟩
      · obtain ⟨m, kk, pre, post, p, e1, e2, rest⟩ := hr h3 q (i + 1) (a - 1 - k.sz) (by omega) hq c3 t3 n2
        obtain ⟨r1, r2, r3, r4, r5, r6, r7, r8, r9, r10⟩ := rest
        refine ⟨m, kk, n :: (k.flat ++ pre), post, p, by simp [F.flat, e1], by simp [F.flat_length]; omega, r1, r2, r3, r4, r5, r6, r7, r8, r9, by simp only [deepF]; omega⟩
theorem fault_place (n : Nd) (hk p p' : Int) (h : p ≠ 0) (h' : p' ≠ 0) : faultE n hk p = faultE n hk p' := by simp [faultE, allowsB, h, h']
theorem below_place (p p' kind : Int) (h : p ≠ 0) (h' : p' ≠ 0) : belowP p kind = belowP p' kind := by funext i; simp [belowP, h, h']
/-- Of an expression's parts. -/
theorem part_is (f : F) (hok : f.ok) (h : synE f 0 = 0) (a : Nat) (ha : a < f.sz) : ∃ (n : Nd) (k : F) (pre post : List Nd), f.flat = pre ++ (n :: (k.flat ++ post)) ∧ pre.length = a ∧ n.kids = k.cnt ∧ k.ok ∧ (synE (.cons n k .nil) 0 = 0 ∨ synE (.cons n k .nil) 1 = 0) := by
  obtain ⟨z1, z2, z3, z4⟩ := synE_zero h
  obtain ⟨n, k, pre, post, p, e1, e2, r1, r2, r3, r4, r5, r6, r7, r8, r9, r10⟩ := part_at f hok (fun _ => 0) 0 a ha (fun _ => by omega) z3 z4 (nd_tw f _ 0 (fun _ => .inl rfl) z4)
  refine ⟨n, k, pre, post, e1, e2, r1, r2, ?_⟩
  have hsz : (F.cons n k .nil).sz ≤ 4000 := by
    have := congrArg List.length e1
    rw [F.flat_length] at this
    simp [F.flat_length] at this
    simp only [F.sz]
    omega
  have hd : deepF (F.cons n k .nil) ≤ 100 := by simp only [deepF]; omega
  unfold synE
  rw [if_neg (by omega), if_neg (by omega)]
  by_cases h0 : p = 0
  · left
    subst h0
    simp only [chkF, twF, or_eq_zero]
    exact ⟨⟨r5, r6, trivial⟩, r7, r8, trivial⟩
  · right
    simp only [chkF, twF, or_eq_zero]
    rw [fault_place n _ 1 p (by decide) h0, below_place 1 p n.kind (by decide) h0]
    refine ⟨⟨r5, r6, trivial⟩, ?_, r8, trivial⟩
    unfold twE
    rw [r9 h0]
    simp

/-! ### Functions -/
theorem addAll_filter (P : ByteArray → Bool) (l : List ByteArray) : ∀ acc, addAll (acc.filter P) (l.filter P) = (addAll acc l).filter P := by
  induction l with
  | nil => intro acc; rfl
  | cons x l ih =>
    intro acc
    have e : addAll acc (x :: l) = addAll (addOne acc x) l := rfl
    rw [e, ← ih]
    by_cases hx : P x = true
    · rw [List.filter_cons_of_pos hx]
      have e2 : addAll (acc.filter P) (x :: l.filter P) = addAll (addOne (acc.filter P) x) (l.filter P) := rfl
      rw [e2]
      congr 1
      unfold addOne
      have hi : inB x (acc.filter P) = inB x acc := by
        rw [Bool.eq_iff_iff, inB_iff, inB_iff, List.mem_filter]
        simp [hx]
      rw [hi]
      split
      · rfl
      · rw [List.filter_append]; simp [hx]
    · rw [List.filter_cons_of_neg hx]
      congr 1
      unfold addOne
      split
      · rfl
      · rw [List.filter_append]; simp [hx]
theorem free_fun (s : ByteArray) (n : Nd) (k : F) (d : Int) : addAll [] (freeT ⟨5, s, 0, d⟩ (.cons n k .nil)) = (addAll [] (freeT n k)).filter fun x => !decide (s = x) := by
  have e : freeT ⟨5, s, 0, d⟩ (.cons n k .nil) = (freeT n k).filter fun x => !decide (s = x) := by
    unfold freeT
    simp only [if_neg (show ¬ (5 : Int) = 3 by decide), List.nil_append]
    rw [freeK_exp _ _ _ _ _ _ _ (by decide)]
    rw [show bindsB 5 0 = true by decide, if_pos rfl]
    unfold lessL freeT
    simp only [freeK, List.append_nil, inB_one]
  rw [e]
  exact addAll_filter _ _ []
theorem fun_syn (s : ByteArray) (f : F) (h : synE f 0 = 0) (h1 : f.sz ≤ 120) (h2 : deepF f ≤ 90) : synE (.cons ⟨5, s, 0, 1⟩ f .nil) 0 = if nameB s then 0 else 62 := by
  obtain ⟨z1, z2, z3, z4⟩ := synE_zero h
  have hb : belowP 0 5 = fun _ => 0 := by funext i; simp [belowP]
  have hf : faultE ⟨5, s, 0, 1⟩ (headK f) 0 = if nameB s then 0 else 62 := by
    simp [faultE, allowsB, numB, kidsB, textE, sortN]
  unfold synE
  rw [if_neg (by simp only [F.sz, deepF]; omega)]
  simp only [chkF, twF, hf, hb, z3, z4]
  cases nameB s <;> simp [or_, twE]
/-! ### What the walks share -/
theorem own_bel (v : Value) (ns : List Nd) (w W : World) (h : NodesAt w v ns) (hn : ns.length ≤ 1000000) (hW : Below w.heap.size w W) : Calls Try.prog 12 #[v] W (NRet W ns) := own_any v ns W (h.below hW) hn
theorem lists_lit (w : World) (vs : List Value) (t : TypeId) (Ls : List (List Nd)) (hl : vs.length = Ls.length) (hm : Ls.length ≤ maxLen) (h : ∀ i, i < Ls.length → NodesAt w (vs.getD i default) (Ls.getD i [])) : ListsAt (w.alloc (.cells vs.toArray t)) (.slice (some ⟨w.heap.size, 0, none⟩) Ls.length Ls.length) Ls := by
  refine ⟨vs, ⟨by omega, _, _, rfl, Nat.le_refl _, hm, fun _ => ⟨_, _, rfl, by simp, ?_⟩⟩, fun i hi => (h i hi).below ((Below.refl _ _).alloc (Nat.le_refl _) _)⟩
  intro j u hj
  have hh : (w.alloc (.cells vs.toArray t)).heap[w.heap.size]? = some (.cells vs.toArray t (0, 0)) := by
    show (w.heap.push _)[w.heap.size]? = _
    simp
  rw [Lib.cell_of_heap hh, Nat.zero_add]
  simpa using hj
theorem check_uni (ns : List Nd) (root x y : Int) (f : F) (h1 : f.ok) (h2 : f.cnt = 1) (h3 : f.flat = ns) (h : synE f root = y) (hx : x = y) : CheckIs ns root x := .inr ⟨f, h1, h2, h3, by rw [hx, h]⟩
theorem make_one (x : Nd) (ns : List Nd) : makeN x [ns] = { x with kids := 1 } :: ns := by simp [makeN]
end Go.Proofs.Ytlalnmefppbebaa
