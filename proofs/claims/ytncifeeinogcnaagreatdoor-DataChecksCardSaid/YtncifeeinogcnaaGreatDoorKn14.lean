/- Texts of this seat, one behind the other: TyC. -/
import Derived.Test.YtncifeeinogcnaaGreatDoorKn13
/- No term is a part of itself: what is asked, and where it is enough to ask: plain mathematics. -/
namespace Go.Proofs.YtncifeeinogcnaaGreatDoor

/-- The terms on the way, the last one first; how far each was looked at: below b not yet, b begun, b + 1 ended. -/
structure Df (G : Gr) (rep : Nat → Nat) (b : Int) (st P : List Nat) (mk : Nat → Int) : Prop where
  pin : ∀ x ∈ P, G.ids x ∧ rep x = x
  lo : ∀ x, G.ids x → mk x ≤ b + 1
  gray : ∀ g, G.ids g → mk g = b → g ∈ P
  chain : ∀ pre g rest, P = pre ++ g :: rest → mk g = b → g ∉ pre → ∀ u ∈ pre, Rch G rep g u
  kidz : ∀ pre g rest, P = pre ++ g :: rest → mk g = b → g ∉ pre → ∀ k ∈ G.kids g, mk (rep k) = b + 1 ∨ rep k ∈ pre
  blk : ∀ x, G.ids x → mk x = b + 1 → Acc (Ed G rep) x
  start : ∀ s ∈ st, mk s = b + 1 ∨ s ∈ P
def setM (mk : Nat → Int) (x : Nat) (v : Int) : Nat → Int := fun y => if y = x then v else mk y
theorem setM_same (mk : Nat → Int) (x : Nat) (v : Int) : setM mk x v x = v := by simp [setM]
theorem setM_other (mk : Nat → Int) {x y : Nat} (v : Int) (h : y ≠ x) : setM mk x v y = mk y := by simp [setM, h]
theorem Df.pop {G : Gr} (hG : G.Ok) {rep : Nat → Nat} (rin : ∀ x, G.ids x → G.ids (rep x)) {b : Int} {st R : List Nat} {x : Nat} {mk : Nat → Int} (h : Df G rep b st (x :: R) mk) (hx : b ≤ mk x) : Df G rep b st R (setM mk x (b + 1)) := by
  have hi := (h.pin x (by simp)).1
  refine ⟨fun y hy => h.pin y (by simp [hy]), fun y hy => ?_, fun g hg e => ?_, fun pre g rest e hgb hg u hu => ?_, fun pre g rest e hgb hg k hk => ?_, fun y hy e => ?_, fun s hs => ?_⟩
  · by_cases e : y = x
    · subst e; rw [setM_same]; omega
    · rw [setM_other _ _ e]; exact h.lo y hy
  · have hne : g ≠ x := by rintro rfl; rw [setM_same] at e; omega
    rw [setM_other _ _ hne] at e
    rcases List.mem_cons.1 (h.gray g hg e) with e | e
    · exact absurd e hne
    · exact e
  · have hne : g ≠ x := by rintro rfl; rw [setM_same] at hgb; omega
    rw [setM_other _ _ hne] at hgb
    exact h.chain (x :: pre) g rest (by rw [e]; rfl) hgb (by simp [hne, hg]) u (by simp [hu])
  · have hne : g ≠ x := by rintro rfl; rw [setM_same] at hgb; omega
    rw [setM_other _ _ hne] at hgb
    rcases h.kidz (x :: pre) g rest (by rw [e]; rfl) hgb (by simp [hne, hg]) k hk with c | c
    · by_cases e : rep k = x
      · exact .inl (by rw [e, setM_same])
      · exact .inl (by rw [setM_other _ _ e]; exact c)
    · rcases List.mem_cons.1 c with e | e
      · exact .inl (by rw [e, setM_same])
      · exact .inr e
  · by_cases e2 : y = x
    · subst e2
      by_cases e3 : mk y = b + 1
      · exact h.blk y hy e3
      · have e4 : mk y = b := by have := h.lo y hy; omega
        refine Acc.intro y fun z hz => ?_
        obtain ⟨_, k, hk, rfl⟩ := hz
        rcases h.kidz [] y R rfl e4 (by simp) k hk with c | c
        · exact h.blk _ (rin k (hG.kin y hy k hk)) c
        · simp at c
    · rw [setM_other _ _ e2] at e; exact h.blk y hy e
  · by_cases e : s = x
    · exact .inl (by rw [e, setM_same])
    · rcases h.start s hs with c | c
      · exact .inl (by rw [setM_other _ _ e]; exact c)
      · rcases List.mem_cons.1 c with c | c
        · exact absurd c e
        · exact .inr c
theorem split_at {α : Type} {g : α} : ∀ (Q : List α) {L pre rest : List α}, g ∉ Q → Q ++ L = pre ++ g :: rest → ∃ p2, pre = Q ++ p2 ∧ L = p2 ++ g :: rest
  | [], L, pre, rest, _, e => ⟨pre, rfl, e⟩
  | a :: Q, L, [], rest, h, e => by simp at e; exact absurd e.1.symm (by intro h2; exact h (by simp [h2]))
  | a :: Q, L, p :: pre, rest, h, e => by
    simp only [List.cons_append, List.cons.injEq] at e
    obtain ⟨p2, h1, h2⟩ := split_at Q (by intro h3; exact h (by simp [h3])) e.2
    exact ⟨p2, by rw [e.1, h1]; rfl, h2⟩
theorem Df.push {G : Gr} (hG : G.Ok) {rep : Nat → Nat} (rin : ∀ x, G.ids x → G.ids (rep x)) (rid : ∀ x, rep (rep x) = rep x) {b : Int} {st R : List Nat} {x : Nat} {mk : Nat → Int} (h : Df G rep b st (x :: R) mk) (hx : mk x < b)
    (hk : ∀ k ∈ G.kids x, setM mk x b (rep k) ≠ b) : Df G rep b st (((G.kids x).map rep).reverse ++ x :: R) (setM mk x b) := by
  have hi := (h.pin x (by simp)).1
  have hQ : ∀ g, setM mk x b g = b → g ∉ ((G.kids x).map rep).reverse := by
    intro g hg hm
    simp only [List.mem_reverse, List.mem_map] at hm
    obtain ⟨k, hk', rfl⟩ := hm
    exact hk k hk' hg
  have hin : ∀ k ∈ G.kids x, rep k ∈ ((G.kids x).map rep).reverse := fun k hk' => by simp only [List.mem_reverse, List.mem_map]; exact ⟨k, hk', rfl⟩
  have hed : ∀ u ∈ ((G.kids x).map rep).reverse, Ed G rep u x := by
    intro u hu
    simp only [List.mem_reverse, List.mem_map] at hu
    obtain ⟨k, hk', rfl⟩ := hu
    exact ⟨hi, k, hk', rfl⟩
  refine ⟨fun y hy => ?_, fun y hy => ?_, fun g hg e => ?_, fun pre g rest e hgb hg u hu => ?_, fun pre g rest e hgb hg k hk' => ?_, fun y hy e => ?_, fun s hs => ?_⟩
  · rcases List.mem_append.1 hy with hy | hy
    · simp only [List.mem_reverse, List.mem_map] at hy
      obtain ⟨k, hk', rfl⟩ := hy
      exact ⟨rin k (hG.kin x hi k hk'), rid k⟩
    · exact h.pin y hy
  · by_cases e : y = x
    · subst e; rw [setM_same]; omega
    · rw [setM_other _ _ e]; exact h.lo y hy
  · by_cases e2 : g = x
    · subst e2; simp
    · rw [setM_other _ _ e2] at e
      exact List.mem_append_right _ (h.gray g hg e)
  · obtain ⟨p2, rfl, e2⟩ := split_at _ (hQ g hgb) e
    cases p2 with
    | nil =>
      simp only [List.nil_append, List.cons.injEq] at e2
      obtain ⟨rfl, rfl⟩ := e2
      rw [List.append_nil] at hu
      exact .one (hed u hu)
    | cons a p3 =>
      simp only [List.cons_append, List.cons.injEq] at e2
      obtain ⟨rfl, e3⟩ := e2
      have hne : g ≠ x := by rintro rfl; exact hg (by simp)
      rw [setM_other _ _ hne] at hgb
      have hc := h.chain (x :: p3) g rest (by rw [e3]; rfl) hgb (fun hm => hg (List.mem_append_right _ hm))
      rcases List.mem_append.1 hu with hu | hu
      · exact .more (hc x (by simp)) (hed u hu)
      · exact hc u hu
  · obtain ⟨p2, rfl, e2⟩ := split_at _ (hQ g hgb) e
    cases p2 with
    | nil =>
      simp only [List.nil_append, List.cons.injEq] at e2
      obtain ⟨rfl, rfl⟩ := e2
      exact .inr (by rw [List.append_nil]; exact hin k hk')
    | cons a p3 =>
      simp only [List.cons_append, List.cons.injEq] at e2
      obtain ⟨rfl, e3⟩ := e2
      have hne : g ≠ x := by rintro rfl; exact hg (by simp)
      rw [setM_other _ _ hne] at hgb
      rcases h.kidz (x :: p3) g rest (by rw [e3]; rfl) hgb (fun hm => hg (List.mem_append_right _ hm)) k hk' with c | c
      · refine .inl ?_
        have hne2 : rep k ≠ x := by intro e4; rw [e4] at c; omega
        rw [setM_other _ _ hne2]; exact c
      · exact .inr (List.mem_append_right _ c)
  · have hne : y ≠ x := by rintro rfl; rw [setM_same] at e; omega
    rw [setM_other _ _ hne] at e; exact h.blk y hy e
  · rcases h.start s hs with c | c
    · have hne : s ≠ x := by rintro rfl; omega
      exact .inl (by rw [setM_other _ _ hne]; exact c)
    · exact .inr (List.mem_append_right _ c)
/-- What is yet to be done, as a number. -/
def wt (G : Gr) (l : List Nat) (p : Nat → Bool) : Nat := (l.map fun x => if p x then 1 + (G.kids x).length else 0).sum
theorem wt_le (G : Gr) (l : List Nat) (p q : Nat → Bool) (h : ∀ y, q y = true → p y = true) : wt G l q ≤ wt G l p := by
  induction l with
  | nil => exact Nat.le_refl _
  | cons a l ih =>
    simp only [wt, List.map_cons, List.sum_cons] at ih ⊢
    have := h a
    by_cases e : q a = true
    · rw [if_pos e, if_pos (this e)]; omega
    · rw [if_neg e]; omega
theorem wt_lt (G : Gr) (l : List Nat) (p q : Nat → Bool) (h : ∀ y, q y = true → p y = true) (x : Nat) (hx : x ∈ l) (h1 : p x = true) (h2 : q x = false) : wt G l q + (1 + (G.kids x).length) ≤ wt G l p := by
  induction l with
  | nil => simp at hx
  | cons a l ih =>
    have hl := wt_le G l p q h
    simp only [wt, List.map_cons, List.sum_cons] at ih hl ⊢
    rcases List.mem_cons.1 hx with rfl | hx
    · rw [if_pos h1, if_neg (by simp [h2])]; omega
    · have := ih hx
      have := h a
      by_cases e : q a = true
      · rw [if_pos e, if_pos (this e)]; omega
      · rw [if_neg e]; omega
/-- While terms are made the same: what was so at the beginning, and the variables that are to be asked. -/
structure Lp (G : Gr) (es : List (T × T)) (rep0 : Nat → Nat) (wi0 : Nat → Bool) (rep : Nat → Nat) (wi : Nat → Bool) (bd : List Nat) (op : List (Nat × Nat)) : Prop where
  sol : Sol G es rep op
  m1 : ∀ x, rep (rep0 x) = rep x
  m2 : ∀ x, rep x = x → rep0 x = x
  bb : ∀ K, G.ids K → rep0 K = K → (G.node K).kind = 31 → wi0 K = true → ((G.node (rep K)).kind = 31 ∧ wi (rep K) = true) ∨ ∃ y ∈ bd, rep y = rep K
  bin : ∀ y ∈ bd, G.ids y ∧ (G.node (rep y)).kind ≠ 31
theorem Lp.pop {G : Gr} {es : List (T × T)} {rep0 rep : Nat → Nat} {wi0 wi : Nat → Bool} {bd : List Nat} {op : List (Nat × Nat)} {p q : Nat} (h : Lp G es rep0 wi0 rep wi bd (op ++ [(p, q)])) (e : rep p = rep q) : Lp G es rep0 wi0 rep wi bd op :=
  ⟨h.sol.pop e, h.m1, h.m2, h.bb, h.bin⟩
def wiU (G : Gr) (wi : Nat → Bool) (X Y : Nat) : Nat → Bool := fun z => if z = X ∧ (G.node X).kind = 31 then wi X || wi Y else wi z
def bdU (G : Gr) (wi : Nat → Bool) (bd : List Nat) (X Y : Nat) : List Nat := if (G.node X).kind ≠ 31 ∧ (G.node Y).kind = 31 ∧ wi Y = true then bd ++ [Y] else bd
theorem Lp.unite {G : Gr} (hG : G.Ok) {es : List (T × T)} {rep0 rep : Nat → Nat} {wi0 wi : Nat → Bool} {bd : List Nat} {op : List (Nat × Nat)} {p q X Y : Nat} (h : Lp G es rep0 wi0 rep wi bd (op ++ [(p, q)]))
    (hXY : (X = rep p ∧ Y = rep q) ∨ (X = rep q ∧ Y = rep p)) (hne : X ≠ Y)
    (hw : ((G.node Y).kind = 31 ∧ ((G.node X).kind = 31 → (G.node X).num ≤ (G.node Y).num)) ∨ ((G.node Y).kind ≠ 31 ∧ (G.node X).kind ≠ 31 ∧ G.node X = G.node Y)) :
    Lp G es rep0 wi0 (merge rep X Y) (wiU G wi X Y) (bdU G wi bd X Y) (op ++ (G.kids Y).zip (G.kids X)) := by
  obtain ⟨hp, hq⟩ := h.sol.opin (p, q) (by simp)
  simp only at hp hq
  have hY : G.ids Y := by rcases hXY with ⟨rfl, rfl⟩ | ⟨rfl, rfl⟩ <;> exact h.sol.rin _ ‹_›
  have rX : rep X = X := by rcases hXY with ⟨rfl, rfl⟩ | ⟨rfl, rfl⟩ <;> exact h.sol.rid _
  have rY : rep Y = Y := by rcases hXY with ⟨rfl, rfl⟩ | ⟨rfl, rfl⟩ <;> exact h.sol.rid _
  have mm : ∀ z, (rep z = Y ∧ merge rep X Y z = X) ∨ (rep z ≠ Y ∧ merge rep X Y z = rep z) := by
    intro z
    by_cases e : rep z = Y
    · exact .inl ⟨e, by simp [merge, e]⟩
    · exact .inr ⟨e, by simp [merge, e]⟩
  have bsub : ∀ y ∈ bd, y ∈ bdU G wi bd X Y := by
    intro y hy
    unfold bdU
    split
    · exact List.mem_append_left _ hy
    · exact hy
  have mcon : ∀ z, (G.node (rep z)).kind ≠ 31 → (G.node (merge rep X Y z)).kind ≠ 31 := by
    intro z hz
    rcases mm z with ⟨a, b⟩ | ⟨a, b⟩
    · rw [b]
      rcases hw with ⟨c, _⟩ | ⟨_, c, _⟩
      · rw [a] at hz; exact absurd c hz
      · exact c
    · rw [b]; exact hz
  refine ⟨h.sol.unite hG hXY hne hw, fun x => ?_, fun x e => ?_, fun K hK e hk hw0 => ?_, fun y hy => ?_⟩
  · show merge rep X Y (rep0 x) = merge rep X Y x
    simp only [merge, h.m1]
  · rcases mm x with ⟨a, b⟩ | ⟨a, b⟩
    · rw [b] at e
      subst e
      rw [rX] at a
      exact absurd a hne
    · rw [b] at e; exact h.m2 x e
  · rcases h.bb K hK e hk hw0 with ⟨a, b⟩ | ⟨y, hy, ey⟩
    · rcases mm K with ⟨c, d⟩ | ⟨c, d⟩
      · rw [d]
        rw [c] at a b
        by_cases hX : (G.node X).kind = 31
        · exact .inl ⟨hX, by simp [wiU, hX, b]⟩
        · refine .inr ⟨Y, ?_, by rcases mm Y with ⟨_, f⟩ | ⟨f, _⟩; exact f; exact absurd rY f⟩
          unfold bdU
          rw [if_pos ⟨hX, a, b⟩]; simp
      · rw [d]
        refine .inl ⟨a, ?_⟩
        unfold wiU
        split
        · rename_i hz; rw [hz.1] at b; simp [b]
        · exact b
    · refine .inr ⟨y, bsub y hy, ?_⟩
      simp only [merge, ey]
  · unfold bdU at hy
    split at hy
    · rename_i hc
      rcases List.mem_append.1 hy with hy | hy
      · exact ⟨(h.bin y hy).1, mcon y (h.bin y hy).2⟩
      · rw [List.mem_singleton] at hy
        subst hy
        refine ⟨hY, ?_⟩
        rcases mm y with ⟨_, b⟩ | ⟨a, _⟩
        · rw [b]; exact hc.1
        · exact absurd rY a
    · exact ⟨(h.bin y hy).1, mcon y (h.bin y hy).2⟩
/-- Where terms are parts, their variables say so. -/
def Wk (G : Gr) (rep : Nat → Nat) (wi : Nat → Bool) : Prop := ∀ x, G.ids x → ∀ k ∈ G.kids x, (G.node (rep k)).kind = 31 → wi (rep k) = true
theorem Lp.wk {G : Gr} (hG : G.Ok) {es : List (T × T)} {rep0 rep : Nat → Nat} {wi0 wi : Nat → Bool} {bd : List Nat} {op : List (Nat × Nat)} (h : Lp G es rep0 wi0 rep wi bd op) (h0 : Wk G rep0 wi0) (i0 : ∀ x, G.ids x → G.ids (rep0 x)) (d0 : ∀ x, rep0 (rep0 x) = rep0 x) : Wk G rep wi := by
  intro x hx k hk hv
  have hi := hG.kin x hx k hk
  have v0 : (G.node (rep0 k)).kind = 31 := by
    apply Classical.byContradiction
    intro hn
    have := (h.sol.cls (rep0 k) (i0 k hi) hn).1
    rw [h.m1 k] at this
    rw [this] at hv
    exact hn hv
  rcases h.bb (rep0 k) (i0 k hi) (d0 k) v0 (h0 x hx k hk v0) with ⟨_, b⟩ | ⟨y, hy, e⟩
  · rw [h.m1 k] at b; exact b
  · rw [h.m1 k] at e
    have := (h.bin y hy).2
    rw [e] at this
    exact absurd hv this
theorem acc_var {G : Gr} (hG : G.Ok) (rep : Nat → Nat) {r : Nat} (hk : (G.node r).kind = 31) : Acc (Ed G rep) r :=
  Acc.intro r fun z hz => by
    obtain ⟨hi, k, hk', _⟩ := hz
    rw [(hG.var r hi hk).2.2] at hk'
    simp at hk'
theorem Lp.acc {G : Gr} (hG : G.Ok) {es : List (T × T)} {rep0 rep : Nat → Nat} {wi0 wi : Nat → Bool} {bd : List Nat} (h : Lp G es rep0 wi0 rep wi bd []) (h0 : Wk G rep0 wi0) (i0 : ∀ x, G.ids x → G.ids (rep0 x)) (d0 : ∀ x, rep0 (rep0 x) = rep0 x)
    (a0 : ∀ x, G.ids x → Acc (Ed G rep0) (rep0 x)) (hs : ∀ y ∈ bd, Acc (Ed G rep) (rep y)) : ∀ x, G.ids x → Acc (Ed G rep) (rep x) := by
  have main : ∀ K, Acc (Ed G rep0) K → G.ids K → (G.node K).kind ≠ 31 → Acc (Ed G rep) (rep K) := by
    intro K hK
    induction hK with
    | intro K _ ih =>
      intro hi hk
      have hr := h.sol.cls K hi hk
      refine Acc.intro _ fun z hz => ?_
      obtain ⟨hri, k, hkm, rfl⟩ := hz
      obtain ⟨i, hil, rfl⟩ := List.getElem_of_mem hkm
      have hlen : (G.kids K).length = (G.kids (rep K)).length := by
        have a := (hG.con (rep K) hri (by rw [hr.1]; exact hk)).2.1
        have b := (hG.con K hi hk).2.1
        rw [hr.1] at a
        omega
      have e := (hr.2 i).end h.sol
      rw [List.getD_eq_getElem?_getD, List.getD_eq_getElem?_getD, List.getElem?_eq_getElem hil, List.getElem?_eq_getElem (by omega), Option.getD_some, Option.getD_some] at e
      rw [← e]
      have hm : (G.kids K)[i]'(by omega) ∈ G.kids K := List.getElem_mem _
      generalize (G.kids K)[i]'(by omega) = k' at hm e
      have hi' := hG.kin K hi k' hm
      by_cases hv : (G.node (rep0 k')).kind = 31
      · rcases h.bb (rep0 k') (i0 k' hi') (d0 k') hv (h0 K hi k' hm hv) with ⟨c, _⟩ | ⟨y, hy, ey⟩
        · rw [h.m1] at c; exact acc_var hG rep c
        · rw [h.m1] at ey; rw [← ey]; exact hs y hy
      · have := ih (rep0 k') ⟨hi, k', hm, rfl⟩ (i0 k' hi') hv
        rw [h.m1] at this
        exact this
  intro x hx
  by_cases hv : (G.node (rep x)).kind = 31
  · exact acc_var hG rep hv
  · have e := h.m2 (rep x) (h.sol.rid x)
    have a := a0 (rep x) (h.sol.rin x hx)
    rw [e] at a
    have := main (rep x) a (h.sol.rin x hx) hv
    rw [h.sol.rid] at this
    exact this
end Go.Proofs.YtncifeeinogcnaaGreatDoor
