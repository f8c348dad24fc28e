/- Texts of this seat, one behind the other: TyB. -/
import Derived.Test.YtncifeeinogcnaaGreatDoorKn12
/- Terms that point to their parts, and what stands for what: plain mathematics. -/
namespace Go.Proofs.YtncifeeinogcnaaGreatDoor
open Go.Proofs.TreeMath

structure Gr where
  ids : Nat → Prop
  node : Nat → Nd
  kids : Nat → List Nat
  tr : Nat → T
def fo (t : Nat → T) : List Nat → F
  | [] => .nil
  | i :: l => .cons (t i).1 (t i).2 (fo t l)
structure Gr.Ok (G : Gr) : Prop where
  var : ∀ x, G.ids x → (G.node x).kind = 31 → G.tr x = (G.node x, .nil) ∧ G.node x = vN (G.node x).num ∧ G.kids x = []
  con : ∀ x, G.ids x → (G.node x).kind ≠ 31 → G.tr x = (G.node x, fo G.tr (G.kids x)) ∧ (G.node x).kids = ((G.kids x).length : Int) ∧ (G.node x).kind = 32
  kin : ∀ x, G.ids x → ∀ k ∈ G.kids x, G.ids k
  uniq : ∀ x y, G.ids x → G.ids y → (G.node x).kind = 31 → (G.node y).kind = 31 → (G.node x).num = (G.node y).num → x = y
/-- One by what stands for them, or by what is yet to be made the same. -/
def Eqv (rep : Nat → Nat) (op : List (Nat × Nat)) (x y : Nat) : Prop := ∀ c : Nat → Nat, (∀ z, c z = c (rep z)) → (∀ p ∈ op, c p.1 = c p.2) → c x = c y
structure Sol (G : Gr) (es : List (T × T)) (rep : Nat → Nat) (op : List (Nat × Nat)) : Prop where
  rin : ∀ x, G.ids x → G.ids (rep x)
  rid : ∀ x, rep (rep x) = rep x
  rout : ∀ x, ¬ G.ids x → rep x = x
  opin : ∀ p ∈ op, G.ids p.1 ∧ G.ids p.2
  snd : ∀ s, Un es s → (∀ x, G.ids x → subT s (G.tr x) = subT s (G.tr (rep x))) ∧ ∀ p ∈ op, subT s (G.tr p.1) = subT s (G.tr p.2)
  cls : ∀ x, G.ids x → (G.node x).kind ≠ 31 → G.node (rep x) = G.node x ∧ ∀ i, Eqv rep op ((G.kids x).getD i 0) ((G.kids (rep x)).getD i 0)
  least : ∀ x, G.ids x → (G.node x).kind = 31 → (G.node (rep x)).kind = 31 → (G.node (rep x)).num ≤ (G.node x).num
  done : ∀ e ∈ es, ∃ p q, G.ids p ∧ G.ids q ∧ G.tr p = e.1 ∧ G.tr q = e.2 ∧ Eqv rep op p q
theorem Eqv.mono {rep rep' : Nat → Nat} {op op' : List (Nat × Nat)} {x y : Nat} (h : Eqv rep op x y)
    (hm : ∀ c : Nat → Nat, (∀ z, c z = c (rep' z)) → (∀ p ∈ op', c p.1 = c p.2) → (∀ z, c z = c (rep z)) ∧ ∀ p ∈ op, c p.1 = c p.2) : Eqv rep' op' x y :=
  fun c h1 h2 => h c (hm c h1 h2).1 (hm c h1 h2).2
theorem Sol.pop {G : Gr} {es : List (T × T)} {rep : Nat → Nat} {op : List (Nat × Nat)} {p q : Nat} (h : Sol G es rep (op ++ [(p, q)])) (e : rep p = rep q) : Sol G es rep op := by
  have hm : ∀ c : Nat → Nat, (∀ z, c z = c (rep z)) → (∀ p ∈ op, c p.1 = c p.2) → (∀ z, c z = c (rep z)) ∧ ∀ x ∈ op ++ [(p, q)], c x.1 = c x.2 := by
    intro c h1 h2
    refine ⟨h1, fun x hx => ?_⟩
    rcases List.mem_append.1 hx with hx | hx
    · exact h2 x hx
    · rw [List.mem_singleton] at hx
      subst hx
      show c p = c q
      rw [h1 p, h1 q, e]
  exact ⟨h.rin, h.rid, h.rout, fun x hx => h.opin x (List.mem_append_left _ hx), fun s hs => ⟨(h.snd s hs).1, fun x hx => (h.snd s hs).2 x (List.mem_append_left _ hx)⟩,
    fun x hx hk => ⟨(h.cls x hx hk).1, fun i => ((h.cls x hx hk).2 i).mono hm⟩, h.least,
    fun e' he => by obtain ⟨a, b, c, d, f, g, k⟩ := h.done e' he; exact ⟨a, b, c, d, f, g, k.mono hm⟩⟩
theorem Sol.fail {G : Gr} (hG : G.Ok) {es : List (T × T)} {rep : Nat → Nat} {op : List (Nat × Nat)} {p q : Nat} (h : Sol G es rep (op ++ [(p, q)]))
    (h1 : (G.node (rep p)).kind ≠ 31) (h2 : (G.node (rep q)).kind ≠ 31) (hne : G.node (rep p) ≠ G.node (rep q)) (s : Int → T) : ¬ Un es s := by
  intro hs
  obtain ⟨a, b⟩ := h.snd s hs
  obtain ⟨hp, hq⟩ := h.opin (p, q) (by simp)
  have e := b (p, q) (by simp)
  simp only at e hp hq
  rw [a p hp, a q hq, (hG.con _ (h.rin p hp) h1).1, (hG.con _ (h.rin q hq) h2).1, subT_con _ _ h1, subT_con _ _ h2] at e
  exact hne (congrArg Prod.fst e)
theorem sub_fo (s : Int → T) (t : Nat → T) : ∀ l, sub s (fo t l) = fo (fun i => subT s (t i)) l
  | [] => rfl
  | i :: l => by simp only [fo]; rw [sub_cons, sub_fo s t l]
theorem fo_inj (t u : Nat → T) : ∀ (a b : List Nat), a.length = b.length → fo t a = fo u b → ∀ p ∈ a.zip b, t p.1 = u p.2
  | [], _, _, _ => by simp
  | i :: a, [], h, _ => by simp at h
  | i :: a, j :: b, h, e => by
    simp only [fo, F.cons.injEq] at e
    intro p hp
    simp only [List.zip_cons_cons, List.mem_cons] at hp
    rcases hp with rfl | hp
    · exact Prod.ext e.1 e.2.1
    · exact fo_inj t u a b (by simpa using h) e.2.2 p hp
def merge (rep : Nat → Nat) (X Y : Nat) : Nat → Nat := fun z => if rep z = Y then X else rep z
/-- Y gives way to X. -/
theorem Sol.unite {G : Gr} (hG : G.Ok) {es : List (T × T)} {rep : Nat → Nat} {op : List (Nat × Nat)} {p q X Y : Nat} (h : Sol G es rep (op ++ [(p, q)]))
    (hXY : (X = rep p ∧ Y = rep q) ∨ (X = rep q ∧ Y = rep p)) (hne : X ≠ Y)
    (hw : ((G.node Y).kind = 31 ∧ ((G.node X).kind = 31 → (G.node X).num ≤ (G.node Y).num)) ∨ ((G.node Y).kind ≠ 31 ∧ (G.node X).kind ≠ 31 ∧ G.node X = G.node Y)) :
    Sol G es (merge rep X Y) (op ++ (G.kids Y).zip (G.kids X)) := by
  obtain ⟨hp, hq⟩ := h.opin (p, q) (by simp)
  simp only at hp hq
  have hX : G.ids X := by rcases hXY with ⟨rfl, rfl⟩ | ⟨rfl, rfl⟩ <;> exact h.rin _ ‹_›
  have hY : G.ids Y := by rcases hXY with ⟨rfl, rfl⟩ | ⟨rfl, rfl⟩ <;> exact h.rin _ ‹_›
  have rX : rep X = X := by rcases hXY with ⟨rfl, rfl⟩ | ⟨rfl, rfl⟩ <;> exact h.rid _
  have rY : rep Y = Y := by rcases hXY with ⟨rfl, rfl⟩ | ⟨rfl, rfl⟩ <;> exact h.rid _
  have mX : merge rep X Y X = X := by simp [merge, rX, hne]
  have mY : merge rep X Y Y = X := by simp [merge, rY]
  have hm : ∀ c : Nat → Nat, (∀ z, c z = c (merge rep X Y z)) → (∀ x ∈ op ++ (G.kids Y).zip (G.kids X), c x.1 = c x.2) → (∀ z, c z = c (rep z)) ∧ ∀ x ∈ op ++ [(p, q)], c x.1 = c x.2 := by
    intro c h1 h2
    have k1 : ∀ z, c z = c (rep z) := by
      intro z
      by_cases e : rep z = Y
      · have a := h1 z
        have b := h1 Y
        rw [mY] at b
        rw [show merge rep X Y z = X by simp [merge, e]] at a
        rw [e, a, b]
      · have a := h1 z
        rw [show merge rep X Y z = rep z by simp [merge, e]] at a
        exact a
    have k2 : c X = c Y := by have b := h1 Y; rw [mY] at b; exact b.symm
    refine ⟨k1, fun x hx => ?_⟩
    rcases List.mem_append.1 hx with hx | hx
    · exact h2 x (List.mem_append_left _ hx)
    · rw [List.mem_singleton] at hx
      subst hx
      show c p = c q
      rw [k1 p, k1 q]
      rcases hXY with ⟨rfl, rfl⟩ | ⟨rfl, rfl⟩
      · exact k2
      · exact k2.symm
  refine ⟨fun x hx => ?_, fun x => ?_, fun x hx => ?_, fun x hx => ?_, fun s hs => ?_, fun x hx hk => ?_, fun x hx hk hk2 => ?_, fun e he => ?_⟩
  · simp only [merge]; split
    · exact hX
    · exact h.rin x hx
  · show merge rep X Y (merge rep X Y x) = merge rep X Y x
    by_cases e : rep x = Y
    · rw [show merge rep X Y x = X by simp [merge, e], mX]
    · rw [show merge rep X Y x = rep x by simp [merge, e]]
      simp [merge, h.rid x, e]
  · have := h.rout x hx
    have hn : rep x ≠ Y := by rw [this]; rintro rfl; exact hx hY
    unfold merge
    rw [if_neg hn]
    exact this
  · rcases List.mem_append.1 hx with hx | hx
    · exact h.opin x (List.mem_append_left _ hx)
    · exact ⟨hG.kin Y hY _ (List.of_mem_zip hx).1, hG.kin X hX _ (List.of_mem_zip hx).2⟩
  · obtain ⟨a, b⟩ := h.snd s hs
    have eXY : subT s (G.tr Y) = subT s (G.tr X) := by
      have e := b (p, q) (by simp)
      simp only at e
      rw [a p hp, a q hq] at e
      rcases hXY with ⟨rfl, rfl⟩ | ⟨rfl, rfl⟩
      · exact e.symm
      · exact e
    refine ⟨fun x hx => ?_, fun x hx => ?_⟩
    · by_cases e : rep x = Y
      · rw [show merge rep X Y x = X by simp [merge, e], a x hx, e, eXY]
      · rw [show merge rep X Y x = rep x by simp [merge, e], a x hx]
    · rcases List.mem_append.1 hx with hx | hx
      · exact b x (List.mem_append_left _ hx)
      · rcases hw with ⟨hk, _⟩ | ⟨hkY, hkX, hn⟩
        · rw [(hG.var Y hY hk).2.2] at hx; simp at hx
        · obtain ⟨tY, lY, _⟩ := hG.con Y hY hkY
          obtain ⟨tX, lX, _⟩ := hG.con X hX hkX
          rw [tY, tX, subT_con _ _ hkY, subT_con _ _ hkX, sub_fo, sub_fo] at eXY
          have hl : (G.kids Y).length = (G.kids X).length := by rw [hn] at lX; omega
          exact fo_inj _ _ _ _ hl (congrArg Prod.snd eXY) x hx
  · obtain ⟨hn, hk2⟩ := h.cls x hx hk
    by_cases e : rep x = Y
    · rw [show merge rep X Y x = X by simp [merge, e]]
      have kY : (G.node Y).kind ≠ 31 := by rw [← e, hn]; exact hk
      rcases hw with ⟨hk', _⟩ | ⟨hkY, hkX, hnn⟩
      · exact absurd hk' kY
      · refine ⟨by rw [hnn, ← e, hn], fun i => ?_⟩
        have h1 := (hk2 i).mono hm
        rw [e] at h1
        intro c c1 c2
        have lY := (hG.con Y hY hkY).2.1
        have lX := (hG.con X hX hkX).2.1
        have hl : (G.kids Y).length = (G.kids X).length := by rw [hnn] at lX; omega
        refine (h1 c c1 c2).trans ?_
        by_cases hi : i < (G.kids Y).length
        · refine c2 ((G.kids Y).getD i 0, (G.kids X).getD i 0) (List.mem_append_right _ ?_)
          rw [List.getD_eq_getElem?_getD, List.getD_eq_getElem?_getD, List.getElem?_eq_getElem hi, List.getElem?_eq_getElem (by omega), Option.getD_some, Option.getD_some]
          have hz : i < ((G.kids Y).zip (G.kids X)).length := by rw [List.length_zip]; omega
          have := List.getElem_mem hz
          rw [List.getElem_zip] at this
          exact this
        · rw [List.getD_eq_getElem?_getD, List.getD_eq_getElem?_getD, List.getElem?_eq_none (by omega), List.getElem?_eq_none (by omega)]
    · rw [show merge rep X Y x = rep x by simp [merge, e]]
      exact ⟨hn, fun i => (hk2 i).mono hm⟩
  · by_cases e : rep x = Y
    · rw [show merge rep X Y x = X by simp [merge, e]] at hk2 ⊢
      rcases hw with ⟨hk', hle⟩ | ⟨hkY, hkX, hnn⟩
      · have := h.least x hx hk (by rw [e]; exact hk')
        rw [e] at this
        have := hle hk2
        omega
      · exact absurd hk2 hkX
    · rw [show merge rep X Y x = rep x by simp [merge, e]] at hk2 ⊢
      exact h.least x hx hk hk2
  · obtain ⟨a, b, c, d, f, g, k⟩ := h.done e he
    exact ⟨a, b, c, d, f, g, k.mono hm⟩
/-- A part of what stands for itself. -/
def Ed (G : Gr) (rep : Nat → Nat) (b a : Nat) : Prop := G.ids a ∧ ∃ k ∈ G.kids a, b = rep k
inductive Ex (G : Gr) (rep : Nat → Nat) : Nat → T → Prop
  | var (x : Nat) (h : (G.node (rep x)).kind = 31) : Ex G rep x (G.node (rep x), .nil)
  | con (x : Nat) (h : (G.node (rep x)).kind ≠ 31) (g : Nat → T) (hg : ∀ k, k ∈ G.kids (rep x) → Ex G rep k (g k)) : Ex G rep x (G.node (rep x), fo g (G.kids (rep x)))
theorem fo_congr' (t u : Nat → T) (a : List Nat) (h : ∀ k ∈ a, t k = u k) : fo t a = fo u a := by
  induction a with
  | nil => rfl
  | cons i a ih => simp only [fo, h i (by simp), ih (fun k hk => h k (by simp [hk]))]
theorem Ex.one {G : Gr} {rep : Nat → Nat} {x : Nat} {t : T} (h : Ex G rep x t) : ∀ u, Ex G rep x u → t = u := by
  induction h with
  | var x h =>
    intro u hu
    cases hu with
    | var _ _ => rfl
    | con _ h' _ _ => exact absurd h h'
  | con x h g hg ih =>
    intro u hu
    cases hu with
    | var _ h' => exact absurd h' h
    | con _ _ g' hg' => rw [fo_congr' g g' _ (fun k hk => ih k hk _ (hg' k hk))]
theorem Eqv.end {G : Gr} {es : List (T × T)} {rep : Nat → Nat} (h : Sol G es rep []) {x y : Nat} (e : Eqv rep [] x y) : rep x = rep y := e rep (fun z => (h.rid z).symm) (by simp)
section
variable {G : Gr} (hG : G.Ok) {es : List (T × T)} {rep : Nat → Nat} (h : Sol G es rep [])
include hG h
variable (ha : ∀ x, G.ids x → Acc (Ed G rep) (rep x))
include ha
end
/-- From one to another one by parts. -/
inductive Rch (G : Gr) (rep : Nat → Nat) : Nat → Nat → Prop
  | one {a b : Nat} (h : Ed G rep b a) : Rch G rep a b
  | more {a b c : Nat} (h : Rch G rep a b) (k : Ed G rep c b) : Rch G rep a c
theorem Rch.cons {G : Gr} {rep : Nat → Nat} {a b c : Nat} (h : Ed G rep b a) (k : Rch G rep b c) : Rch G rep a c := by
  induction k with
  | one k => exact .more (.one h) k
  | more _ k ih => exact .more ih k
end Go.Proofs.YtncifeeinogcnaaGreatDoor
