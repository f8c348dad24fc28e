/- Texts of this seat, one behind the other: LwB. -/
import Derived.Test.YtncifeeinogcnaaDoorKn22
import Derived.Test.YtncifeeinogcnaaDoorKn20
import Derived.RangeFuncWrites
import Derived.RangeFuncBox
import Derived.RangeFuncLeaves
import Derived.RangeFuncNested
import Derived.RangeFuncBound
import Derived.RangeFuncCalls
import Derived.Shelf.Abstract
import Derived.WalkKit
import Derived.OwnWalkIn
import Derived.TacticsInMore
import Derived.LoopNIn
import Derived.LoopIn
import Derived.Maps.OwnIn
/- The laws' mathematics: what is put for variables is a type. -/
set_option maxRecDepth 100000
namespace Go.Proofs.YtncifeeinogcnaaDoor
open Go.Proofs.TreeMath

theorem F.cnt_sub (s : Int → T) (f : F) : (sub s f).cnt = f.cnt := by
  induction f with
  | nil => rfl
  | cons n k r _ hr => simp only [sub]; split <;> simp [F.cnt, hr]
/-- All nodes that are no variables are like that. -/
def allC (P : Nd → Nat → Bool) : F → Prop
  | .nil => True
  | .cons n k r => (n.kind ≠ 31 → P n k.cnt = true ∧ allC P k) ∧ allC P r
def allCT (P : Nd → Nat → Bool) (t : T) : Prop := t.1.kind ≠ 31 → P t.1 t.2.cnt = true ∧ allC P t.2
/-- A variable in the place of what is not like that. -/
def trim (P : Nd → Nat → Bool) : F → F
  | .nil => .nil
  | .cons n k r => if n.kind = 31 then .cons n k (trim P r) else if P n k.cnt = true then .cons n (trim P k) (trim P r) else .cons (vN 0) .nil (trim P r)
def trimT (P : Nd → Nat → Bool) (t : T) : T := if t.1.kind = 31 then t else if P t.1 t.2.cnt = true then (t.1, trim P t.2) else vT 0
theorem trim_cons (P : Nd → Nat → Bool) (n : Nd) (k r : F) : trim P (.cons n k r) = .cons (trimT P (n, k)).1 (trimT P (n, k)).2 (trim P r) := by
  unfold trimT
  simp only [trim]
  split
  · rfl
  · split <;> rfl
theorem trim_sub (P : Nd → Nat → Bool) (s : Int → T) (f : F) (h : allC P f) : sub (fun v => trimT P (s v)) f = trim P (sub s f) := by
  induction f with
  | nil => rfl
  | cons n k r hk hr =>
    obtain ⟨h1, h2⟩ := h
    by_cases hn : n.kind = 31
    · simp only [sub, if_pos hn]
      rw [trim_cons, hr h2]
    · obtain ⟨h3, h4⟩ := h1 hn
      simp only [sub, if_neg hn, trim, F.cnt_sub, h3, if_true]
      rw [hk h4, hr h2]
theorem trimT_sub (P : Nd → Nat → Bool) (s : Int → T) (t : T) (h : allCT P t) : subT (fun v => trimT P (s v)) t = trimT P (subT s t) := by
  by_cases hn : t.1.kind = 31
  · simp only [subT, if_pos hn]
  · obtain ⟨h3, h4⟩ := h hn
    have e1 : subT (fun v => trimT P (s v)) t = (t.1, sub (fun v => trimT P (s v)) t.2) := by simp only [subT, if_neg hn]
    have e2 : trimT P (subT s t) = (t.1, trim P (sub s t.2)) := by simp only [subT, if_neg hn, trimT, F.cnt_sub, h3, if_true]
    rw [e1, e2, trim_sub P s _ h4]
theorem allC_of (P : Nd → Nat → Bool) (t : Int → T) (f : F) : sub t f = trim P f → allC P f := by
  induction f with
  | nil => intro _; trivial
  | cons n k r hk hr =>
    intro e
    by_cases hn : n.kind = 31
    · simp only [sub, if_pos hn, trim, F.cons.injEq] at e
      exact ⟨fun h => absurd hn h, hr e.2.2⟩
    · by_cases hp : P n k.cnt = true
      · simp only [sub, if_neg hn, trim, if_pos hp, F.cons.injEq, true_and] at e
        exact ⟨fun _ => ⟨hp, hk e.1⟩, hr e.2⟩
      · simp only [sub, if_neg hn, trim, if_neg hp, F.cons.injEq] at e
        rw [e.1] at hn
        exact absurd rfl hn
theorem allCT_of (P : Nd → Nat → Bool) (t : Int → T) (x : T) (e : subT t x = trimT P x) : allCT P x := by
  intro hn
  by_cases hp : P x.1 x.2.cnt = true
  · simp only [subT, if_neg hn, trimT, if_pos hp, Prod.mk.injEq, true_and] at e
    exact ⟨hp, allC_of P t _ e⟩
  · simp only [subT, if_neg hn, trimT, if_neg hp] at e
    have := congrArg (fun x => x.1) e
    simp only [vT] at this
    rw [this] at hn
    exact absurd rfl hn
/-- What is put for variables is of nodes like those of the equations. -/
theorem Mgu.allC {P : Nd → Nat → Bool} {es : List (T × T)} {s : Int → T} (h : Mgu es s) (he : ∀ e ∈ es, allCT P e.1 ∧ allCT P e.2) (v : Int) : allCT P (s v) := by
  refine allCT_of P (fun v => trimT P (s v)) _ (h.gen (fun v => trimT P (s v)) (fun e hm => ?_) v)
  rw [trimT_sub P s _ (he e hm).1, trimT_sub P s _ (he e hm).2, h.un e hm]
theorem sub_congr (s t : Int → T) (f : F) : (∀ v ∈ vs f, s v = t v) → sub s f = sub t f := by
  induction f with
  | nil => intro _; rfl
  | cons n k r hk hr =>
    intro h
    by_cases hn : n.kind = 31
    · simp only [vs, if_pos hn, List.cons_append, List.nil_append, List.mem_cons] at h
      simp only [sub, if_pos hn]
      rw [h _ (.inl rfl), hr fun v hv => h v (.inr hv)]
    · simp only [vs, if_neg hn, List.mem_append] at h
      simp only [sub, if_neg hn]
      rw [hk fun v hv => h v (.inl hv), hr fun v hv => h v (.inr hv)]
theorem subT_congr (s t : Int → T) (x : T) (h : ∀ v ∈ vsT x, s v = t v) : subT s x = subT t x := by
  by_cases hn : x.1.kind = 31
  · simp only [vsT, if_pos hn, List.mem_singleton] at h
    simp only [subT, if_pos hn]; exact h _ rfl
  · simp only [vsT, if_neg hn] at h
    simp only [subT, if_neg hn, sub_congr s t _ h]
theorem sub_inj (s t : Int → T) (f : F) : sub s f = sub t f → ∀ v ∈ vs f, s v = t v := by
  induction f with
  | nil => intro _ v hv; simp [vs] at hv
  | cons n k r hk hr =>
    intro e v hv
    by_cases hn : n.kind = 31
    · simp only [sub, if_pos hn, F.cons.injEq] at e
      simp only [vs, if_pos hn, List.cons_append, List.nil_append, List.mem_cons] at hv
      rcases hv with rfl | hv
      · exact Prod.ext e.1 e.2.1
      · exact hr e.2.2 v hv
    · simp only [sub, if_neg hn, F.cons.injEq, true_and] at e
      simp only [vs, if_neg hn, List.mem_append] at hv
      rcases hv with hv | hv
      · exact hk e.1 v hv
      · exact hr e.2 v hv
theorem subT_inj (s t : Int → T) (x : T) (e : subT s x = subT t x) : ∀ v ∈ vsT x, s v = t v := by
  intro v hv
  by_cases hn : x.1.kind = 31
  · simp only [vsT, if_pos hn, List.mem_singleton] at hv
    simp only [subT, if_pos hn] at e
    rw [hv]; exact e
  · simp only [vsT, if_neg hn] at hv
    simp only [subT, if_neg hn, Prod.mk.injEq, true_and] at e
    exact sub_inj s t _ e v hv
/-- Its variables are of those of the equations. -/
theorem Mgu.vars {V : Int → Prop} {es : List (T × T)} {s : Int → T} (h : Mgu es s) (he : ∀ e ∈ es, (∀ v ∈ vsT e.1, V v) ∧ (∀ v ∈ vsT e.2, V v)) (v : Int) (hv : V v) : ∀ u ∈ vsT (s v), V u := by
  classical
  intro u hu
  apply Classical.byContradiction
  intro hnu
  let σ : Int → T := fun x => if V x then vT x else vT (x + 1)
  let t : Int → T := fun w => if V w then subT σ (s w) else vT w
  have ht : Un es t := fun e hm => by
    have a : ∀ x : T, (∀ v ∈ vsT x, V v) → subT t x = subT σ (subT s x) := fun x hx => by
      rw [subT_comp]
      exact subT_congr _ _ x fun w hw => by show (if V w then _ else _) = _; rw [if_pos (hx w hw)]
    rw [a _ (he e hm).1, a _ (he e hm).2, h.un e hm]
  have g := h.gen t ht v
  rw [show t v = subT σ (s v) from if_pos hv] at g
  have e := subT_inj t σ (s v) g u hu
  have e1 : t u = vT u := if_neg hnu
  have e2 : σ u = vT (u + 1) := if_neg hnu
  rw [e1, e2] at e
  have : u = u + 1 := congrArg (fun t => t.1.num) e
  omega
theorem vs_sub (V : Int → Prop) (s : Int → T) (f : F) : (∀ v ∈ vs f, V v) → (∀ v, V v → ∀ u ∈ vsT (s v), V u) → wv f → (∀ v, wvT (s v)) → ∀ u ∈ vs (sub s f), V u := by
  intro h1 hs hw hws
  induction f with
  | nil => intro u hu; simp [sub, vs] at hu
  | cons n k r hk hr =>
    obtain ⟨w1, w2, w3⟩ := hw
    intro u hu
    by_cases hn : n.kind = 31
    · simp only [vs, if_pos hn, List.cons_append, List.nil_append, List.mem_cons] at h1
      simp only [sub, if_pos hn, vs, List.mem_append] at hu
      rcases hu with hu | hu
      · refine hs _ (h1 _ (.inl rfl)) u ?_
        unfold vsT
        exact hu
      · exact hr (fun v hv => h1 v (.inr hv)) w3 u hu
    · simp only [vs, if_neg hn, List.mem_append] at h1
      simp only [sub, if_neg hn, vs, List.mem_append] at hu
      rcases hu with hu | hu
      · exact hk (fun v hv => h1 v (.inl hv)) w2 u hu
      · exact hr (fun v hv => h1 v (.inr hv)) w3 u hu
theorem vsT_sub (V : Int → Prop) (s : Int → T) (t : T) (h1 : ∀ v ∈ vsT t, V v) (hs : ∀ v, V v → ∀ u ∈ vsT (s v), V u) (hw : wvT t) (hws : ∀ v, wvT (s v)) : ∀ u ∈ vsT (subT s t), V u := by
  intro u hu
  by_cases hn : t.1.kind = 31
  · simp only [vsT, if_pos hn, List.mem_singleton] at h1
    simp only [subT, if_pos hn] at hu
    exact hs _ (h1 _ rfl) u hu
  · simp only [vsT, if_neg hn] at h1
    simp only [subT, if_neg hn, vsT] at hu
    exact vs_sub V s _ h1 hs hw.2 hws u hu
theorem allC_sub (P : Nd → Nat → Bool) (s : Int → T) (f : F) (h : allC P f) (hs : ∀ v, allCT P (s v)) : allC P (sub s f) := by
  induction f with
  | nil => trivial
  | cons n k r hk hr =>
    obtain ⟨h1, h2⟩ := h
    by_cases hn : n.kind = 31
    · simp only [sub, if_pos hn]
      exact ⟨hs _, hr h2⟩
    · simp only [sub, if_neg hn]
      obtain ⟨h3, h4⟩ := h1 hn
      exact ⟨fun _ => ⟨by rw [F.cnt_sub]; exact h3, hk h4⟩, hr h2⟩
theorem allCT_sub (P : Nd → Nat → Bool) (s : Int → T) (t : T) (h : allCT P t) (hs : ∀ v, allCT P (s v)) : allCT P (subT s t) := by
  by_cases hn : t.1.kind = 31
  · simp only [subT, if_pos hn]; exact hs _
  · simp only [subT, if_neg hn]
    obtain ⟨h3, h4⟩ := h hn
    exact fun _ => ⟨by rw [F.cnt_sub]; exact h3, allC_sub P s _ h4 hs⟩
/-- A right node with as many kids. -/
def RCn (n : Nd) (c : Nat) : Bool := rightN n && decide (n.kids = (c : Int)) && decide (n.text.size ≤ 100000000)
theorem right_ok (f : F) : wv f → allC RCn f → (∀ v ∈ vs f, 0 ≤ v ∧ v ≤ 1048576) → f.ok ∧ (∀ n ∈ f.flat, rightN n = true) ∧ SmallN f.flat := by
  induction f with
  | nil => intro _ _ _; exact ⟨trivial, fun n hn => by simp [F.flat] at hn, fun n hn => by simp [F.flat] at hn⟩
  | cons n k r hk hr =>
    rintro ⟨w1, w2, w3⟩ ⟨c1, c2⟩ hv
    by_cases hn : n.kind = 31
    · obtain ⟨a, rfl⟩ := w1 hn
      simp only [vs, if_pos hn, List.cons_append, List.nil_append, List.mem_cons] at hv
      obtain ⟨r1, r2, r3⟩ := hr w3 c2 fun v h => hv v (.inr h)
      have h0 := hv _ (.inl rfl)
      have hrn : rightN n = true := by rw [a]; simp [rightN, vN, h0.1, h0.2]
      refine ⟨⟨by rw [a]; rfl, trivial, r1⟩, fun m hm => ?_, fun m hm => ?_⟩
      · simp only [F.flat, List.nil_append, List.mem_cons] at hm
        rcases hm with rfl | hm
        · exact hrn
        · exact r2 m hm
      · simp only [F.flat, List.nil_append, List.mem_cons] at hm
        rcases hm with rfl | hm
        · rw [a]; show (0 : Nat) ≤ _; omega
        · exact r3 m hm
    · obtain ⟨p, q⟩ := c1 hn
      unfold RCn at p
      simp only [Bool.and_eq_true, decide_eq_true_eq] at p
      simp only [vs, if_neg hn, List.mem_append] at hv
      obtain ⟨k1, k2, k3⟩ := hk w2 q fun v h => hv v (.inl h)
      obtain ⟨r1, r2, r3⟩ := hr w3 c2 fun v h => hv v (.inr h)
      refine ⟨⟨p.1.2, k1, r1⟩, fun m hm => ?_, fun m hm => ?_⟩
      · simp only [F.flat, List.mem_cons, List.mem_append] at hm
        rcases hm with rfl | hm | hm
        · exact p.1.1
        · exact k2 m hm
        · exact r2 m hm
      · simp only [F.flat, List.mem_cons, List.mem_append] at hm
        rcases hm with rfl | hm | hm
        · exact p.2
        · exact k3 m hm
        · exact r3 m hm
theorem right_back (f : F) : f.ok → (∀ n ∈ f.flat, rightN n = true) → SmallN f.flat → allC RCn f ∧ ∀ v ∈ vs f, 0 ≤ v ∧ v ≤ 1048576 := by
  induction f with
  | nil => intro _ _ _; exact ⟨trivial, fun v hv => by simp [vs] at hv⟩
  | cons n k r hk hr =>
    rintro ⟨h1, h2, h3⟩ hR hS
    obtain ⟨k1, k2⟩ := hk h2 (fun x hx => hR x (by simp [F.flat, hx])) (fun x hx => hS x (by simp [F.flat, hx]))
    obtain ⟨r1, r2⟩ := hr h3 (fun x hx => hR x (by simp [F.flat, hx])) (fun x hx => hS x (by simp [F.flat, hx]))
    have hn := hR n (by simp [F.flat])
    have hs := hS n (by simp [F.flat])
    refine ⟨⟨fun _ => ⟨by unfold RCn; rw [hn, decide_eq_true h1, decide_eq_true hs]; rfl, k1⟩, r1⟩, fun v hv => ?_⟩
    by_cases e : n.kind = 31
    · simp only [vs, if_pos e, List.cons_append, List.nil_append, List.mem_cons] at hv
      rcases hv with rfl | hv
      · unfold rightN at hn
        rw [if_pos e] at hn
        simp only [Bool.and_eq_true, decide_eq_true_eq] at hn
        exact hn.1.1
      · exact r2 v hv
    · simp only [vs, if_neg e, List.mem_append] at hv
      rcases hv with hv | hv
      · exact k2 v hv
      · exact r2 v hv
theorem tyB_tree (t : T) (hw : wvT t) (hc : allCT RCn t) (hv : ∀ v ∈ vsT t, 0 ≤ v ∧ v ≤ 1048576) (hz : szT t ≤ 4000) : tyB (flatT t) = true ∧ SmallN (flatT t) := by
  have h2 : wv (.cons t.1 t.2 .nil) := (wv_cons t .nil).2 ⟨hw, trivial⟩
  have h3 : allC RCn (.cons t.1 t.2 .nil) := ⟨hc, trivial⟩
  have h4 : ∀ v ∈ vs (.cons t.1 t.2 .nil), 0 ≤ v ∧ v ≤ 1048576 := fun v h => hv v (by
    simp only [vs, List.append_nil] at h
    unfold vsT; exact h)
  obtain ⟨a, b, c⟩ := right_ok _ h2 h3 h4
  refine ⟨?_, c⟩
  unfold tyB
  simp only [Bool.and_eq_true, decide_eq_true_eq]
  refine ⟨⟨by rw [flatT_length]; exact hz, whole_flat _ a rfl⟩, ?_⟩
  rw [List.all_eq_true]; exact b
/-- Types that were made the same are types. -/
theorem Mgu.type {na nb : Nd} {ka kb : F} {s : Int → T} (h : Mgu [((na, ka), (nb, kb))] s) (ta : tyB (na :: ka.flat) = true) (tb : tyB (nb :: kb.flat) = true) (oa : okF (.cons na ka .nil)) (fa : (F.cons na ka .nil).ok) (fb : (F.cons nb kb .nil).ok) (sa : SmallN (na :: ka.flat)) (sb : SmallN (nb :: kb.flat)) (hz : szT (subT s (na, ka)) ≤ 4000) : tyB (flatT (subT s (na, ka))) = true ∧ SmallN (flatT (subT s (na, ka))) := by
  have back : ∀ (n : Nd) (k : F), tyB (n :: k.flat) = true → (F.cons n k .nil).ok → SmallN (n :: k.flat) → allCT RCn (n, k) ∧ ∀ v ∈ vsT (n, k), 0 ≤ v ∧ v ≤ 1048576 := fun n k ht hf hs => by
    have e : (F.cons n k .nil).flat = n :: k.flat := by simp [F.flat]
    unfold tyB at ht
    simp only [Bool.and_eq_true, List.all_eq_true] at ht
    obtain ⟨a, b⟩ := right_back (.cons n k .nil) hf (by rw [e]; exact ht.2) (by rw [e]; exact hs)
    exact ⟨a.1, fun v hv => b v (by simp only [vs, List.append_nil]; unfold vsT at hv; exact hv)⟩
  obtain ⟨a1, a2⟩ := back na ka ta fa sa
  obtain ⟨b1, b2⟩ := back nb kb tb fb sb
  have wa : wvT (na, ka) := ((wv_cons (na, ka) .nil).1 (okF_wv _ oa)).1
  have hC := h.allC (P := RCn) fun e he => by rw [List.mem_singleton] at he; subst he; exact ⟨a1, b1⟩
  have hV := h.vars (V := fun v => 0 ≤ v ∧ v ≤ 1048576) fun e he => by rw [List.mem_singleton] at he; subst he; exact ⟨a2, b2⟩
  exact tyB_tree _ (wvT_subT h.wf _ wa) (allCT_sub RCn s _ a1 hC) (vsT_sub _ s _ a2 hV wa h.wf) hz
end Go.Proofs.YtncifeeinogcnaaDoor
