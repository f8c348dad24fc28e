/- Texts of this seat, one behind the other: TyC, TyD. -/
import Derived.Test.YtncifeeinogcnaaGreatDoorKn02
import Derived.Lib.Hide
import Derived.Outline
import Derived.LoopTactic
import Derived.Deep.QuietTactic
import Derived.BigQuiet
import Derived.Deep.LoopGhost
/- No term is a part of itself: what is asked, and where it is enough to ask: plain mathematics. -/
namespace Go.Proofs.YtncifeeinogcnaaGreatDoor

/-- The terms on the way, the last one first; how far each was looked at: below b not yet, b begun, b + 1 ended. -/
structure Df (G : Gr) (rep : Nat → Nat) (b : Int) (st P : List Nat) (mk : Nat → Int) : Prop where
  pin : ∀ x ∈ P, G.ids x ∧ rep x = x
  lo : ∀ x, G.ids x → mk x ≤ b + 1
  gray : ∀ g, G.ids g → mk g = b → g ∈ P
  chain : ∀ pre g rest, P = pre ++ g :: rest → mk g = b → g ∉ pre → ∀ u ∈ pre, Rch G rep g u
  kidz : ∀ pre g rest, P = pre ++ g :: rest → mk g = b → g ∉ pre → ∀ k ∈ G.kids g, mk (rep k) = b + 1 ∨ rep k ∈ pre
  blk : ∀ x, G.ids x → mk x = b + 1 → Acc (Ed G rep) x
  start : ∀ s ∈ st, mk s = b + 1 ∨ s ∈ P
def setM (mk : Nat → Int) (x : Nat) (v : Int) : Nat → Int := fun y => if y = x then v else mk y
theorem setM_same (mk : Nat → Int) (x : Nat) (v : Int) : setM mk x v x = v := by simp [setM]
theorem setM_other (mk : Nat → Int) {x y : Nat} (v : Int) (h : y ≠ x) : setM mk x v y = mk y := by simp [setM, h]
theorem Df.begin (G : Gr) (rep : Nat → Nat) (rin : ∀ x, G.ids x → G.ids (rep x)) (rid : ∀ x, rep (rep x) = rep x) (b : Int) (bd : List Nat) (hb : ∀ y ∈ bd, G.ids y) (mk : Nat → Int) (hm : ∀ x, G.ids x → mk x < b) :
    Df G rep b (bd.map rep) ((bd.map rep).reverse) mk := by
  have hp : ∀ x ∈ (bd.map rep).reverse, G.ids x ∧ rep x = x := by
    intro x hx
    simp only [List.mem_reverse, List.mem_map] at hx
    obtain ⟨y, hy, rfl⟩ := hx
    exact ⟨rin y (hb y hy), rid y⟩
  refine ⟨hp, fun x hx => by have := hm x hx; omega, fun g hg e => by have := hm g hg; omega, fun pre g rest e h => ?_, fun pre g rest e h => ?_, fun x hx e => by have := hm x hx; omega, fun s hs => .inr (by simpa using hs)⟩
  · have := hm g (hp g (by rw [e]; simp)).1; omega
  · have := hm g (hp g (by rw [e]; simp)).1; omega
theorem Df.pop {G : Gr} (hG : G.Ok) {rep : Nat → Nat} (rin : ∀ x, G.ids x → G.ids (rep x)) {b : Int} {st R : List Nat} {x : Nat} {mk : Nat → Int} (h : Df G rep b st (x :: R) mk) (hx : b ≤ mk x) : Df G rep b st R (setM mk x (b + 1)) := by
  have hi := (h.pin x (by simp)).1
  refine ⟨fun y hy => h.pin y (by simp [hy]), fun y hy => ?_, fun g hg e => ?_, fun pre g rest e hgb hg u hu => ?_, fun pre g rest e hgb hg k hk => ?_, fun y hy e => ?_, fun s hs => ?_⟩
  · by_cases e : y = x
    · subst e; rw [setM_same]; omega
    · rw [setM_other _ _ e]; exact h.lo y hy
  · have hne : g ≠ x := by rintro rfl; rw [setM_same] at e; omega
    rw [setM_other _ _ hne] at e
    rcases List.mem_cons.1 (h.gray g hg e) with e | e
    · exact absurd e hne
    · exact e
  · have hne : g ≠ x := by rintro rfl; rw [setM_same] at hgb; omega
    rw [setM_other _ _ hne] at hgb
    exact h.chain (x :: pre) g rest (by rw [e]; rfl) hgb (by simp [hne, hg]) u (by simp [hu])
  · have hne : g ≠ x := by rintro rfl; rw [setM_same] at hgb; omega
    rw [setM_other _ _ hne] at hgb
    rcases h.kidz (x :: pre) g rest (by rw [e]; rfl) hgb (by simp [hne, hg]) k hk with c | c
    · by_cases e : rep k = x
      · exact .inl (by rw [e, setM_same])
      · exact .inl (by rw [setM_other _ _ e]; exact c)
    · rcases List.mem_cons.1 c with e | e
      · exact .inl (by rw [e, setM_same])
      · exact .inr e
  · by_cases e2 : y = x
    · subst e2
      by_cases e3 : mk y = b + 1
      · exact h.blk y hy e3
      · have e4 : mk y = b := by have := h.lo y hy; omega
        refine Acc.intro y fun z hz => ?_
        obtain ⟨_, k, hk, rfl⟩ := hz
        rcases h.kidz [] y R rfl e4 (by simp) k hk with c | c
        · exact h.blk _ (rin k (hG.kin y hy k hk)) c
        · simp at c
    · rw [setM_other _ _ e2] at e; exact h.blk y hy e
  · by_cases e : s = x
    · exact .inl (by rw [e, setM_same])
    · rcases h.start s hs with c | c
      · exact .inl (by rw [setM_other _ _ e]; exact c)
      · rcases List.mem_cons.1 c with c | c
        · exact absurd c e
        · exact .inr c
theorem first_in {α : Type} [DecidableEq α] (r : α) : ∀ l : List α, r ∈ l → ∃ pre rest, l = pre ++ r :: rest ∧ r ∉ pre
  | [], h => by simp at h
  | a :: l, h => by
    by_cases e : a = r
    · exact ⟨[], l, by rw [e]; rfl, by simp⟩
    · obtain ⟨pre, rest, h1, h2⟩ := first_in r l (by rcases List.mem_cons.1 h with h | h; exact absurd h.symm e; exact h)
      exact ⟨a :: pre, rest, by rw [h1]; rfl, by simp [h2, Ne.symm e]⟩
theorem Df.circle {G : Gr} (hG : G.Ok) {rep : Nat → Nat} (rin : ∀ x, G.ids x → G.ids (rep x)) {b : Int} {st R : List Nat} {x k : Nat} {mk : Nat → Int} (h : Df G rep b st (x :: R) mk) (hk : k ∈ G.kids x) (e : setM mk x b (rep k) = b) : ∃ a, Rch G rep a a := by
  have hi := (h.pin x (by simp)).1
  have hed : Ed G rep (rep k) x := ⟨hi, k, hk, rfl⟩
  by_cases ex : rep k = x
  · exact ⟨x, .one (by rw [ex] at hed; exact hed)⟩
  · rw [setM_other _ _ ex] at e
    have hm := h.gray _ (rin k (hG.kin x hi k hk)) e
    obtain ⟨pre, rest, h1, h2⟩ := first_in (rep k) (x :: R) hm
    have hxp : x ∈ pre := by
      cases pre with
      | nil => simp at h1; exact absurd h1.1.symm ex
      | cons a pre => simp at h1; simp [h1.1]
    exact ⟨rep k, .more (h.chain pre (rep k) rest h1 e h2 x hxp) hed⟩
theorem split_at {α : Type} {g : α} : ∀ (Q : List α) {L pre rest : List α}, g ∉ Q → Q ++ L = pre ++ g :: rest → ∃ p2, pre = Q ++ p2 ∧ L = p2 ++ g :: rest
  | [], L, pre, rest, _, e => ⟨pre, rfl, e⟩
  | a :: Q, L, [], rest, h, e => by simp at e; exact absurd e.1.symm (by intro h2; exact h (by simp [h2]))
  | a :: Q, L, p :: pre, rest, h, e => by
    simp only [List.cons_append, List.cons.injEq] at e
    obtain ⟨p2, h1, h2⟩ := split_at Q (by intro h3; exact h (by simp [h3])) e.2
    exact ⟨p2, by rw [e.1, h1]; rfl, h2⟩
theorem Df.push {G : Gr} (hG : G.Ok) {rep : Nat → Nat} (rin : ∀ x, G.ids x → G.ids (rep x)) (rid : ∀ x, rep (rep x) = rep x) {b : Int} {st R : List Nat} {x : Nat} {mk : Nat → Int} (h : Df G rep b st (x :: R) mk) (hx : mk x < b)
    (hk : ∀ k ∈ G.kids x, setM mk x b (rep k) ≠ b) : Df G rep b st (((G.kids x).map rep).reverse ++ x :: R) (setM mk x b) := by
  have hi := (h.pin x (by simp)).1
  have hQ : ∀ g, setM mk x b g = b → g ∉ ((G.kids x).map rep).reverse := by
    intro g hg hm
    simp only [List.mem_reverse, List.mem_map] at hm
    obtain ⟨k, hk', rfl⟩ := hm
    exact hk k hk' hg
  have hin : ∀ k ∈ G.kids x, rep k ∈ ((G.kids x).map rep).reverse := fun k hk' => by simp only [List.mem_reverse, List.mem_map]; exact ⟨k, hk', rfl⟩
  have hed : ∀ u ∈ ((G.kids x).map rep).reverse, Ed G rep u x := by
    intro u hu
    simp only [List.mem_reverse, List.mem_map] at hu
    obtain ⟨k, hk', rfl⟩ := hu
    exact ⟨hi, k, hk', rfl⟩
  refine ⟨fun y hy => ?_, fun y hy => ?_, fun g hg e => ?_, fun pre g rest e hgb hg u hu => ?_, fun pre g rest e hgb hg k hk' => ?_, fun y hy e => ?_, fun s hs => ?_⟩
  · rcases List.mem_append.1 hy with hy | hy
    · simp only [List.mem_reverse, List.mem_map] at hy
      obtain ⟨k, hk', rfl⟩ := hy
      exact ⟨rin k (hG.kin x hi k hk'), rid k⟩
    · exact h.pin y hy
  · by_cases e : y = x
    · subst e; rw [setM_same]; omega
    · rw [setM_other _ _ e]; exact h.lo y hy
  · by_cases e2 : g = x
    · subst e2; simp
    · rw [setM_other _ _ e2] at e
      exact List.mem_append_right _ (h.gray g hg e)
  · obtain ⟨p2, rfl, e2⟩ := split_at _ (hQ g hgb) e
    cases p2 with
    | nil =>
      simp only [List.nil_append, List.cons.injEq] at e2
      obtain ⟨rfl, rfl⟩ := e2
      rw [List.append_nil] at hu
      exact .one (hed u hu)
    | cons a p3 =>
      simp only [List.cons_append, List.cons.injEq] at e2
      obtain ⟨rfl, e3⟩ := e2
      have hne : g ≠ x := by rintro rfl; exact hg (by simp)
      rw [setM_other _ _ hne] at hgb
      have hc := h.chain (x :: p3) g rest (by rw [e3]; rfl) hgb (fun hm => hg (List.mem_append_right _ hm))
      rcases List.mem_append.1 hu with hu | hu
      · exact .more (hc x (by simp)) (hed u hu)
      · exact hc u hu
  · obtain ⟨p2, rfl, e2⟩ := split_at _ (hQ g hgb) e
    cases p2 with
    | nil =>
      simp only [List.nil_append, List.cons.injEq] at e2
      obtain ⟨rfl, rfl⟩ := e2
      exact .inr (by rw [List.append_nil]; exact hin k hk')
    | cons a p3 =>
      simp only [List.cons_append, List.cons.injEq] at e2
      obtain ⟨rfl, e3⟩ := e2
      have hne : g ≠ x := by rintro rfl; exact hg (by simp)
      rw [setM_other _ _ hne] at hgb
      rcases h.kidz (x :: p3) g rest (by rw [e3]; rfl) hgb (fun hm => hg (List.mem_append_right _ hm)) k hk' with c | c
      · refine .inl ?_
        have hne2 : rep k ≠ x := by intro e4; rw [e4] at c; omega
        rw [setM_other _ _ hne2]; exact c
      · exact .inr (List.mem_append_right _ c)
  · have hne : y ≠ x := by rintro rfl; rw [setM_same] at e; omega
    rw [setM_other _ _ hne] at e; exact h.blk y hy e
  · rcases h.start s hs with c | c
    · have hne : s ≠ x := by rintro rfl; omega
      exact .inl (by rw [setM_other _ _ hne]; exact c)
    · exact .inr (List.mem_append_right _ c)
/-- What is yet to be done, as a number. -/
def wt (G : Gr) (l : List Nat) (p : Nat → Bool) : Nat := (l.map fun x => if p x then 1 + (G.kids x).length else 0).sum
theorem wt_le (G : Gr) (l : List Nat) (p q : Nat → Bool) (h : ∀ y, q y = true → p y = true) : wt G l q ≤ wt G l p := by
  induction l with
  | nil => exact Nat.le_refl _
  | cons a l ih =>
    simp only [wt, List.map_cons, List.sum_cons] at ih ⊢
    have := h a
    by_cases e : q a = true
    · rw [if_pos e, if_pos (this e)]; omega
    · rw [if_neg e]; omega
theorem wt_lt (G : Gr) (l : List Nat) (p q : Nat → Bool) (h : ∀ y, q y = true → p y = true) (x : Nat) (hx : x ∈ l) (h1 : p x = true) (h2 : q x = false) : wt G l q + (1 + (G.kids x).length) ≤ wt G l p := by
  induction l with
  | nil => simp at hx
  | cons a l ih =>
    have hl := wt_le G l p q h
    simp only [wt, List.map_cons, List.sum_cons] at ih hl ⊢
    rcases List.mem_cons.1 hx with rfl | hx
    · rw [if_pos h1, if_neg (by simp [h2])]; omega
    · have := ih hx
      have := h a
      by_cases e : q a = true
      · rw [if_pos e, if_pos (this e)]; omega
      · rw [if_neg e]; omega
/-- While terms are made the same: what was so at the beginning, and the variables that are to be asked. -/
structure Lp (G : Gr) (es : List (T × T)) (rep0 : Nat → Nat) (wi0 : Nat → Bool) (rep : Nat → Nat) (wi : Nat → Bool) (bd : List Nat) (op : List (Nat × Nat)) : Prop where
  sol : Sol G es rep op
  m1 : ∀ x, rep (rep0 x) = rep x
  m2 : ∀ x, rep x = x → rep0 x = x
  bb : ∀ K, G.ids K → rep0 K = K → (G.node K).kind = 31 → wi0 K = true → ((G.node (rep K)).kind = 31 ∧ wi (rep K) = true) ∨ ∃ y ∈ bd, rep y = rep K
  bin : ∀ y ∈ bd, G.ids y ∧ (G.node (rep y)).kind ≠ 31
theorem Lp.begin {G : Gr} {es : List (T × T)} {rep : Nat → Nat} {wi : Nat → Bool} {op : List (Nat × Nat)} (h : Sol G es rep op) : Lp G es rep wi rep wi [] op :=
  ⟨h, h.rid, fun _ h => h, fun K _ e hk hw => .inl ⟨by rw [e]; exact hk, by rw [e]; exact hw⟩, by simp⟩
theorem Lp.pop {G : Gr} {es : List (T × T)} {rep0 rep : Nat → Nat} {wi0 wi : Nat → Bool} {bd : List Nat} {op : List (Nat × Nat)} {p q : Nat} (h : Lp G es rep0 wi0 rep wi bd (op ++ [(p, q)])) (e : rep p = rep q) : Lp G es rep0 wi0 rep wi bd op :=
  ⟨h.sol.pop e, h.m1, h.m2, h.bb, h.bin⟩
def wiU (G : Gr) (wi : Nat → Bool) (X Y : Nat) : Nat → Bool := fun z => if z = X ∧ (G.node X).kind = 31 then wi X || wi Y else wi z
def bdU (G : Gr) (wi : Nat → Bool) (bd : List Nat) (X Y : Nat) : List Nat := if (G.node X).kind ≠ 31 ∧ (G.node Y).kind = 31 ∧ wi Y = true then bd ++ [Y] else bd
theorem Lp.unite {G : Gr} (hG : G.Ok) {es : List (T × T)} {rep0 rep : Nat → Nat} {wi0 wi : Nat → Bool} {bd : List Nat} {op : List (Nat × Nat)} {p q X Y : Nat} (h : Lp G es rep0 wi0 rep wi bd (op ++ [(p, q)]))
    (hXY : (X = rep p ∧ Y = rep q) ∨ (X = rep q ∧ Y = rep p)) (hne : X ≠ Y)
    (hw : ((G.node Y).kind = 31 ∧ ((G.node X).kind = 31 → (G.node X).num ≤ (G.node Y).num)) ∨ ((G.node Y).kind ≠ 31 ∧ (G.node X).kind ≠ 31 ∧ G.node X = G.node Y)) :
    Lp G es rep0 wi0 (merge rep X Y) (wiU G wi X Y) (bdU G wi bd X Y) (op ++ (G.kids Y).zip (G.kids X)) := by
  obtain ⟨hp, hq⟩ := h.sol.opin (p, q) (by simp)
  simp only at hp hq
  have hY : G.ids Y := by rcases hXY with ⟨rfl, rfl⟩ | ⟨rfl, rfl⟩ <;> exact h.sol.rin _ ‹_›
  have rX : rep X = X := by rcases hXY with ⟨rfl, rfl⟩ | ⟨rfl, rfl⟩ <;> exact h.sol.rid _
  have rY : rep Y = Y := by rcases hXY with ⟨rfl, rfl⟩ | ⟨rfl, rfl⟩ <;> exact h.sol.rid _
  have mm : ∀ z, (rep z = Y ∧ merge rep X Y z = X) ∨ (rep z ≠ Y ∧ merge rep X Y z = rep z) := by
    intro z
    by_cases e : rep z = Y
    · exact .inl ⟨e, by simp [merge, e]⟩
    · exact .inr ⟨e, by simp [merge, e]⟩
  have bsub : ∀ y ∈ bd, y ∈ bdU G wi bd X Y := by
    intro y hy
    unfold bdU
    split
    · exact List.mem_append_left _ hy
    · exact hy
  have mcon : ∀ z, (G.node (rep z)).kind ≠ 31 → (G.node (merge rep X Y z)).kind ≠ 31 := by
    intro z hz
    rcases mm z with ⟨a, b⟩ | ⟨a, b⟩
    · rw [b]
      rcases hw with ⟨c, _⟩ | ⟨_, c, _⟩
      · rw [a] at hz; exact absurd c hz
      · exact c
    · rw [b]; exact hz
  refine ⟨h.sol.unite hG hXY hne hw, fun x => ?_, fun x e => ?_, fun K hK e hk hw0 => ?_, fun y hy => ?_⟩
  · show merge rep X Y (rep0 x) = merge rep X Y x
    simp only [merge, h.m1]
  · rcases mm x with ⟨a, b⟩ | ⟨a, b⟩
    · rw [b] at e
      subst e
      rw [rX] at a
      exact absurd a hne
    · rw [b] at e; exact h.m2 x e
  · rcases h.bb K hK e hk hw0 with ⟨a, b⟩ | ⟨y, hy, ey⟩
    · rcases mm K with ⟨c, d⟩ | ⟨c, d⟩
      · rw [d]
        rw [c] at a b
        by_cases hX : (G.node X).kind = 31
        · exact .inl ⟨hX, by simp [wiU, hX, b]⟩
        · refine .inr ⟨Y, ?_, by rcases mm Y with ⟨_, f⟩ | ⟨f, _⟩; exact f; exact absurd rY f⟩
          unfold bdU
          rw [if_pos ⟨hX, a, b⟩]; simp
      · rw [d]
        refine .inl ⟨a, ?_⟩
        unfold wiU
        split
        · rename_i hz; rw [hz.1] at b; simp [b]
        · exact b
    · refine .inr ⟨y, bsub y hy, ?_⟩
      simp only [merge, ey]
  · unfold bdU at hy
    split at hy
    · rename_i hc
      rcases List.mem_append.1 hy with hy | hy
      · exact ⟨(h.bin y hy).1, mcon y (h.bin y hy).2⟩
      · rw [List.mem_singleton] at hy
        subst hy
        refine ⟨hY, ?_⟩
        rcases mm y with ⟨_, b⟩ | ⟨a, _⟩
        · rw [b]; exact hc.1
        · exact absurd rY a
    · exact ⟨(h.bin y hy).1, mcon y (h.bin y hy).2⟩
/-- Where terms are parts, their variables say so. -/
def Wk (G : Gr) (rep : Nat → Nat) (wi : Nat → Bool) : Prop := ∀ x, G.ids x → ∀ k ∈ G.kids x, (G.node (rep k)).kind = 31 → wi (rep k) = true
theorem Lp.wk {G : Gr} (hG : G.Ok) {es : List (T × T)} {rep0 rep : Nat → Nat} {wi0 wi : Nat → Bool} {bd : List Nat} {op : List (Nat × Nat)} (h : Lp G es rep0 wi0 rep wi bd op) (h0 : Wk G rep0 wi0) (i0 : ∀ x, G.ids x → G.ids (rep0 x)) (d0 : ∀ x, rep0 (rep0 x) = rep0 x) : Wk G rep wi := by
  intro x hx k hk hv
  have hi := hG.kin x hx k hk
  have v0 : (G.node (rep0 k)).kind = 31 := by
    apply Classical.byContradiction
    intro hn
    have := (h.sol.cls (rep0 k) (i0 k hi) hn).1
    rw [h.m1 k] at this
    rw [this] at hv
    exact hn hv
  rcases h.bb (rep0 k) (i0 k hi) (d0 k) v0 (h0 x hx k hk v0) with ⟨_, b⟩ | ⟨y, hy, e⟩
  · rw [h.m1 k] at b; exact b
  · rw [h.m1 k] at e
    have := (h.bin y hy).2
    rw [e] at this
    exact absurd hv this
theorem acc_var {G : Gr} (hG : G.Ok) (rep : Nat → Nat) {r : Nat} (hk : (G.node r).kind = 31) : Acc (Ed G rep) r :=
  Acc.intro r fun z hz => by
    obtain ⟨hi, k, hk', _⟩ := hz
    rw [(hG.var r hi hk).2.2] at hk'
    simp at hk'
theorem Lp.acc {G : Gr} (hG : G.Ok) {es : List (T × T)} {rep0 rep : Nat → Nat} {wi0 wi : Nat → Bool} {bd : List Nat} (h : Lp G es rep0 wi0 rep wi bd []) (h0 : Wk G rep0 wi0) (i0 : ∀ x, G.ids x → G.ids (rep0 x)) (d0 : ∀ x, rep0 (rep0 x) = rep0 x)
    (a0 : ∀ x, G.ids x → Acc (Ed G rep0) (rep0 x)) (hs : ∀ y ∈ bd, Acc (Ed G rep) (rep y)) : ∀ x, G.ids x → Acc (Ed G rep) (rep x) := by
  have main : ∀ K, Acc (Ed G rep0) K → G.ids K → (G.node K).kind ≠ 31 → Acc (Ed G rep) (rep K) := by
    intro K hK
    induction hK with
    | intro K _ ih =>
      intro hi hk
      have hr := h.sol.cls K hi hk
      refine Acc.intro _ fun z hz => ?_
      obtain ⟨hri, k, hkm, rfl⟩ := hz
      obtain ⟨i, hil, rfl⟩ := List.getElem_of_mem hkm
      have hlen : (G.kids K).length = (G.kids (rep K)).length := by
        have a := (hG.con (rep K) hri (by rw [hr.1]; exact hk)).2.1
        have b := (hG.con K hi hk).2.1
        rw [hr.1] at a
        omega
      have e := (hr.2 i).end h.sol
      rw [List.getD_eq_getElem?_getD, List.getD_eq_getElem?_getD, List.getElem?_eq_getElem hil, List.getElem?_eq_getElem (by omega), Option.getD_some, Option.getD_some] at e
      rw [← e]
      have hm : (G.kids K)[i]'(by omega) ∈ G.kids K := List.getElem_mem _
      generalize (G.kids K)[i]'(by omega) = k' at hm e
      have hi' := hG.kin K hi k' hm
      by_cases hv : (G.node (rep0 k')).kind = 31
      · rcases h.bb (rep0 k') (i0 k' hi') (d0 k') hv (h0 K hi k' hm hv) with ⟨c, _⟩ | ⟨y, hy, ey⟩
        · rw [h.m1] at c; exact acc_var hG rep c
        · rw [h.m1] at ey; rw [← ey]; exact hs y hy
      · have := ih (rep0 k') ⟨hi, k', hm, rfl⟩ (i0 k' hi') hv
        rw [h.m1] at this
        exact this
  intro x hx
  by_cases hv : (G.node (rep x)).kind = 31
  · exact acc_var hG rep hv
  · have e := h.m2 (rep x) (h.sol.rid x)
    have a := a0 (rep x) (h.sol.rin x hx)
    rw [e] at a
    have := main (rep x) a (h.sol.rin x hx) hv
    rw [h.sol.rid] at this
    exact this
end Go.Proofs.YtncifeeinogcnaaGreatDoor
/- Terms in a world; the contract of root. -/
set_option maxRecDepth 100000
namespace Go.Proofs.YtncifeeinogcnaaGreatDoor
open Go.RowKit Go.Lib Go.Proofs.TreeMath

theorem cell_of_heap {w : World} {b : Nat} {cells : Array Value} {t : TypeId} {fz : Nat × Nat} (h : w.heap[b]? = some (.cells cells t fz)) (k : Nat) : w.cell? ⟨b, k, none⟩ = cells[k]? := by simp [World.cell?, h]
theorem frozen_of_heap {w : World} {b : Nat} {cells : Array Value} {t : TypeId} (h : w.heap[b]? = some (.cells cells t (0, 0))) (k : Nat) : w.frozen? ⟨b, k, none⟩ = false := by simp [World.frozen?, h]
theorem set_blk {w : World} {p : Nat} {cs : Array Value} {T : TypeId} {fz : Nat × Nat} (h : w.heap[p]? = some (.cells cs T fz)) (i : Nat) (v : Value) : (w.setCell ⟨p, i, none⟩ v).heap[p]? = some (.cells (cs.setIfInBounds i v) T fz) := by
  simp [World.setCell, Array.getElem?_modify, h]
/-- Below B all blocks but these are as they were. -/
structure Frm (D : Nat → Prop) (B : Nat) (w w' : World) : Prop where
  os : w'.os = w.os
  tape : w'.tape = w.tape
  output : w'.output = w.output
  size : w.heap.size ≤ w'.heap.size
  block : ∀ k, k < B → ¬ D k → w'.heap[k]? = w.heap[k]?
theorem Frm.refl (D : Nat → Prop) (B : Nat) (w : World) : Frm D B w w := ⟨rfl, rfl, rfl, Nat.le_refl _, fun _ _ _ => rfl⟩
theorem Frm.trans {D : Nat → Prop} {B : Nat} {a b c : World} (h : Frm D B a b) (k : Frm D B b c) : Frm D B a c :=
  ⟨k.os.trans h.os, k.tape.trans h.tape, k.output.trans h.output, Nat.le_trans h.size k.size, fun j hj hp => (k.block j hj hp).trans (h.block j hj hp)⟩
theorem Frm.mono {D E : Nat → Prop} {B C : Nat} {w w' : World} (h : Frm D B w w') (hC : C ≤ B) (hD : ∀ k, k < C → D k → E k) : Frm E C w w' :=
  ⟨h.os, h.tape, h.output, h.size, fun k hk hn => h.block k (by omega) (fun hd => hn (hD k hk hd))⟩
theorem Frm.of_below {D : Nat → Prop} {B : Nat} {w w' : World} (h : Below B w w') : Frm D B w w' := ⟨h.os, h.tape, h.output, h.size, fun k hk _ => h.block k hk⟩
theorem Frm.below {D : Nat → Prop} {B C : Nat} {w w' : World} (h : Frm D B w w') (hC : C ≤ B) (hD : ∀ k, k < C → ¬ D k) : Below C w w' := ⟨h.os, h.tape, h.output, h.size, fun k hk => h.block k (by omega) (hD k hk)⟩
theorem Frm.drew {D : Nat → Prop} {B : Nat} {a w : World} (h : Frm D B a w) : Frm D B a w.drew := ⟨h.os, h.tape, h.output, h.size, h.block⟩
theorem Frm.setCell {D : Nat → Prop} {B : Nat} {a w : World} (h : Frm D B a w) {x i : Nat} (hx : D x) (u : Value) : Frm D B a (w.setCell ⟨x, i, none⟩ u) :=
  h.trans ⟨rfl, rfl, rfl, by simp [World.setCell], fun k _ hn => Below.heap_setCell _ _ _ _ (by rintro rfl; exact hn hx)⟩
def pv (b : Nat) : Value := .pointer (some ⟨b, 0, none⟩)
def pvo : Option Nat → Value | none => .pointer none | some b => pv b
def tmCells (n : Nd) (kv : Value) (by_ : Option Nat) (wi : Bool) (mk : Int) : Array Value := #[.int .i64 n.kind, .string n.text, .int .i64 n.num, .int .i64 n.kids, kv, pvo by_, .bool wi, .int .i64 mk]
/-- A row of terms, below B. -/
def KidsAt (B : Nat) (w : World) (v : Value) (ks : List Nat) : Prop := w.ownsRow 0 93 1 v ks.length (ks.map pv) ∧ ∀ g, v.ownBlock = some g → g < B
theorem KidsAt.of_block {B : Nat} {w w' : World} {v : Value} {ks : List Nat} (h : KidsAt B w v ks) (e : ∀ g, v.ownBlock = some g → w'.heap[g]? = w.heap[g]?) : KidsAt B w' v ks := by
  obtain ⟨⟨h1, h2⟩, h3⟩ := h
  refine ⟨⟨h1, ?_⟩, h3⟩
  rcases h2 with h2 | ⟨g, cap, cur, rfl, hb, hg, h4⟩
  · exact .inl h2
  · exact .inr ⟨g, cap, cur, rfl, hb, by rw [e g rfl]; exact hg, h4⟩
theorem KidsAt.ty {B : Nat} {w : World} {v : Value} {ks : List Nat} (h : KidsAt B w v ks) {g : Nat} (e : v.ownBlock = some g) : ∃ cur, w.heap[g]? = some (.cells cur 93 (0, 0)) := by
  obtain ⟨⟨_, h2⟩, _⟩ := h
  rcases h2 with ⟨rfl, _⟩ | ⟨g', cap, cur, rfl, hb, hg, _⟩
  · simp [Value.ownBlock] at e
  · simp only [Value.ownBlock, Option.some.injEq] at e
    subst e
    exact ⟨cur, hg⟩
/-- .. in a block that is told. -/
structure KA (B : Nat) (w : World) (v : Value) (ks : List Nat) (row : Option Nat) : Prop where
  k : KidsAt B w v ks
  r : v.ownBlock = row
theorem KA.of_block {B : Nat} {w w' : World} {v : Value} {ks : List Nat} {row : Option Nat} (h : KA B w v ks row) (e : ∀ g, v.ownBlock = some g → w'.heap[g]? = w.heap[g]?) : KA B w' v ks row := ⟨h.k.of_block e, h.r⟩
theorem KA.ty {B : Nat} {w : World} {v : Value} {ks : List Nat} {row : Option Nat} (h : KA B w v ks row) {g : Nat} (e : v.ownBlock = some g) : ∃ cur, w.heap[g]? = some (.cells cur 93 (0, 0)) := h.k.ty e
inductive Leads (by_ : Nat → Option Nat) : Nat → Nat → Prop
  | stop {x : Nat} (h : by_ x = none) : Leads by_ x x
  | step {x y r : Nat} (h : by_ x = some y) (k : Leads by_ y r) : Leads by_ x r
/-- What a store's terms are. -/
structure SS where
  dom : List Nat
  node : Nat → Nd
  kids : Nat → List Nat
  rep : Nat → Nat
  wi : Nat → Bool
  mr : Nat → Int
  row : Nat → Option Nat
structure TB (B : Nat) (w : World) (S : SS) (by_ : Nat → Option Nat) : Prop where
  lead : ∀ x, Leads by_ x (S.rep x)
  bin : ∀ x y, by_ x = some y → y ∈ S.dom
  blk : ∀ x ∈ S.dom, x < B ∧ ∃ kv, w.heap[x]? = some (.cells (tmCells (S.node x) kv (by_ x) (S.wi x) (S.mr x)) 136 (0, 0)) ∧ (by_ x = none → KA B w kv (S.kids x) (S.row x))
  kin : ∀ x ∈ S.dom, ∀ k ∈ S.kids x, k ∈ S.dom
  fit : B ≤ w.heap.size
def TW (B : Nat) (w : World) (S : SS) : Prop := ∃ by_, TB B w S by_
def SS.D (S : SS) (k : Nat) : Prop := k ∈ S.dom
theorem TB.ne_row {B : Nat} {w : World} {S : SS} {by_ : Nat → Option Nat} (h : TB B w S by_) {x : Nat} (hx : x ∈ S.dom) {v : Value} {ks : List Nat} (hk : KidsAt B w v ks) {g : Nat} (e : v.ownBlock = some g) : g ≠ x := by
  rintro rfl
  obtain ⟨cur, h1⟩ := hk.ty e
  obtain ⟨_, kv, h2, _⟩ := h.blk g hx
  rw [h1] at h2
  simp at h2
/-- A term is written anew. -/
theorem TB.put {B : Nat} {w : World} {S : SS} {by_ by2 : Nat → Option Nat} (h : TB B w S by_) {x i : Nat} (hx : x ∈ S.dom) (v : Value) (S2 : SS) (hd : S2.dom = S.dom) (hn : S2.node = S.node) (hk : S2.kids = S.kids) (hro : S2.row = S.row)
    (hl : ∀ x, Leads by2 x (S2.rep x)) (hb : ∀ x y, by2 x = some y → y ∈ S.dom) (ho : ∀ y, y ≠ x → by2 y = by_ y ∧ S2.wi y = S.wi y ∧ S2.mr y = S.mr y)
    (hs : ∀ kv, w.heap[x]? = some (.cells (tmCells (S.node x) kv (by_ x) (S.wi x) (S.mr x)) 136 (0, 0)) → (by_ x = none → KA B w kv (S.kids x) (S.row x)) →
      ∃ kv2, (tmCells (S.node x) kv (by_ x) (S.wi x) (S.mr x)).setIfInBounds i v = tmCells (S.node x) kv2 (by2 x) (S2.wi x) (S2.mr x) ∧ (by2 x = none → KA B w kv2 (S.kids x) (S.row x))) :
    TB B (w.setCell ⟨x, i, none⟩ v) S2 by2 := by
  have keep : ∀ kv ks ro, KA B w kv ks ro → KA B (w.setCell ⟨x, i, none⟩ v) kv ks ro := fun kv ks ro k => k.of_block fun g e => Below.heap_setCell _ _ _ _ (h.ne_row hx k.k e)
  refine ⟨hl, fun y z e => by rw [hd]; exact hb y z e, fun y hy => ?_, fun y hy k hk' => ?_, by have := h.fit; simpa [World.setCell] using this⟩
  · rw [hd] at hy
    obtain ⟨h1, kv, h2, h3⟩ := h.blk y hy
    refine ⟨h1, ?_⟩
    by_cases e : y = x
    · subst e
      obtain ⟨kv2, h4, h5⟩ := hs kv h2 h3
      refine ⟨kv2, ?_, fun e => by rw [hk, hro]; exact keep _ _ _ (h5 e)⟩
      rw [set_blk h2, h4, hn]
    · obtain ⟨a, b, c⟩ := ho y e
      refine ⟨kv, ?_, fun e2 => by rw [hk, hro]; exact keep _ _ _ (h3 (by rw [← a]; exact e2))⟩
      rw [Below.heap_setCell _ _ _ _ e, h2, hn, a, b, c]
  · rw [hk] at hk'
    rw [hd] at hy ⊢
    exact h.kin y hy k hk'
theorem TB.below {B : Nat} {w w' : World} {S : SS} {by_ : Nat → Option Nat} (h : TB B w S by_) (b : Below B w w') : TB B w' S by_ :=
  ⟨h.lead, h.bin, fun x hx => by
    obtain ⟨h1, kv, h2, h3⟩ := h.blk x hx
    exact ⟨h1, kv, by rw [b.block x h1]; exact h2, fun e => (h3 e).of_block fun g hg => b.block g ((h3 e).k.2 g hg)⟩, h.kin, Nat.le_trans h.fit b.size⟩
theorem TW.below {B : Nat} {w w' : World} {S : SS} (h : TW B w S) (b : Below B w w') : TW B w' S := let ⟨y, k⟩ := h; ⟨y, k.below b⟩
theorem TB.cells {B : Nat} {w : World} {S : SS} {by_ : Nat → Option Nat} (h : TB B w S by_) {x : Nat} (hx : x ∈ S.dom) : ∃ kv, w.cell? ⟨x, 0, none⟩ = some (.int .i64 (S.node x).kind) ∧ w.cell? ⟨x, 1, none⟩ = some (.string (S.node x).text) ∧
    w.cell? ⟨x, 2, none⟩ = some (.int .i64 (S.node x).num) ∧ w.cell? ⟨x, 3, none⟩ = some (.int .i64 (S.node x).kids) ∧ w.cell? ⟨x, 4, none⟩ = some kv ∧ w.cell? ⟨x, 5, none⟩ = some (pvo (by_ x)) ∧ w.cell? ⟨x, 6, none⟩ = some (.bool (S.wi x)) ∧
    w.cell? ⟨x, 7, none⟩ = some (.int .i64 (S.mr x)) ∧ (∀ i, w.frozen? ⟨x, i, none⟩ = false) ∧ (by_ x = none → KA B w kv (S.kids x) (S.row x)) := by
  obtain ⟨_, kv, h2, h3⟩ := h.blk x hx
  exact ⟨kv, cell_of_heap h2 0, cell_of_heap h2 1, cell_of_heap h2 2, cell_of_heap h2 3, cell_of_heap h2 4, cell_of_heap h2 5, cell_of_heap h2 6, cell_of_heap h2 7, fun i => frozen_of_heap h2 i, h3⟩
/-- A shorter way to what stands for a term. -/
theorem Leads.short {by_ : Nat → Option Nat} {x y z : Nat} (h1 : by_ x = some y) (h2 : by_ y = some z) {a r : Nat} (h : Leads by_ a r) : Leads (fun u => if u = x then some z else by_ u) a r := by
  have ends : ∀ {a r}, Leads by_ a r → by_ r = none := by
    intro a r h
    induction h with
    | stop h => exact h
    | step _ _ ih => exact ih
  have skip : ∀ a r, Leads by_ a r → Leads (fun u => if u = x then some z else by_ u) a r ∧ (∀ c, by_ a = some c → Leads (fun u => if u = x then some z else by_ u) c r) := by
    intro a r h
    induction h with
    | @stop a h =>
      have hne : a ≠ x := by rintro rfl; rw [h] at h1; simp at h1
      exact ⟨.stop (by simp [hne, h]), fun c hc => by rw [h] at hc; simp at hc⟩
    | @step a c r h k ih =>
      refine ⟨?_, fun c' hc => ?_⟩
      · by_cases e : a = x
        · subst e
          rw [h1] at h
          simp only [Option.some.injEq] at h
          subst h
          exact .step (by simp) (ih.2 z h2)
        · exact .step (by simp [e, h]) ih.1
      · rw [h] at hc
        simp only [Option.some.injEq] at hc
        subst hc
        exact ih.1
  exact (skip a r h).1
theorem Leads.one {by_ : Nat → Option Nat} {a r s : Nat} (h : Leads by_ a r) (k : Leads by_ a s) : r = s := by
  induction h with
  | stop h =>
    cases k with
    | stop _ => rfl
    | step h' _ => rw [h] at h'; simp at h'
  | step h _ ih =>
    cases k with
    | stop h' => rw [h] at h'; simp at h'
    | step h' k' => rw [h] at h'; simp only [Option.some.injEq] at h'; subst h'; exact ih k'
theorem TB.none_iff {B : Nat} {w : World} {S : SS} {by_ : Nat → Option Nat} (h : TB B w S by_) (x : Nat) : by_ x = none ↔ S.rep x = x := by
  constructor
  · intro e
    exact ((Leads.stop e).one (h.lead x)).symm
  · intro e
    have h1 := h.lead x
    rw [e] at h1
    cases hb : by_ x with
    | none => rfl
    | some y =>
      exfalso
      have ends : ∀ {a r}, Leads by_ a r → by_ r = none := by
        intro a r h
        induction h with
        | stop h => exact h
        | step _ _ ih => exact ih
      rw [ends h1] at hb
      simp at hb
inductive LeadsN (by_ : Nat → Option Nat) : Nat → Nat → Nat → Prop
  | stop {x : Nat} (h : by_ x = none) : LeadsN by_ x x 0
  | step {x y r n : Nat} (h : by_ x = some y) (k : LeadsN by_ y r n) : LeadsN by_ x r (n + 1)
end Go.Proofs.YtncifeeinogcnaaGreatDoor
