/- Texts of this seat, one behind the other: ParD. -/
import Derived.Test.YtggjckalmlploaaGreatDoorKn07
/- The parser, as mathematics: blanks ahead, brackets, how much is made. -/
namespace Go.Proofs.ParMath
open Go.Proofs.LexMath Go.Proofs.FixMath Go.Proofs.YtggjckalmlploaaGreatDoor
/-! ### What is kept: one parser beside itself -/
theorem head_of {p : Test} {ps : List Test} {l : List Tok} (h : sees (p :: ps) l = true) : ∃ t r, l = t :: r := by
  cases l with
  | nil => simp [sees] at h
  | cons t r => exact ⟨t, r, rfl⟩
def posG (C : Cfg) (G : St → Prop) (x : Int) : Prop := x = C.fin ∨ ∃ s1, G s1 ∧ ∃ t ∈ s1.rest, x = t.at_
theorem here_pos {C : Cfg} {G : St → Prop} {s : St} (h : G s) : posG C G (here C s) := by
  unfold here
  cases hr : s.rest with
  | nil => exact .inl rfl
  | cons t r => exact .inr ⟨s, h, t, by rw [hr]; simp, rfl⟩
/-- A parser beside itself. -/
theorem rels_self {C : Cfg} {G : St → Prop} (K : ∀ s t r, G s → s.rest = t :: r → G ⟨r, s.e, s.at_⟩) (F : ∀ s, G s → ∀ x c, ¬ c = 0 → posG C G x → G (s.fail x c)) :
    Rels C C False (fun s s' => s = s' ∧ G s) (fun x x' => x = x' ∧ posG C G x) where
  fs := rfl
  climb := rfl
  see := by rintro s _ ps ⟨rfl, _⟩ _; rfl
  tk := by
    rintro s _ p ⟨rfl, h⟩ _
    refine .inl ⟨rfl, fun hs => ?_⟩
    obtain ⟨t, r, hr⟩ := head_of hs
    rw [hr]
    exact ⟨⟨⟨rfl, rfl, rfl⟩, rfl, .inr ⟨s, h, t, by rw [hr]; simp, rfl⟩⟩, rfl, K s t r h hr⟩
  here := by rintro s _ ⟨rfl, h⟩; exact ⟨rfl, here_pos h⟩
  fail := by
    rintro s _ x _ c hc ⟨rfl, h⟩ ⟨rfl, hx⟩
    exact .inl ⟨rfl, F s h x c hc hx⟩
theorem kept_ep {C : Cfg} {G : St → Prop} (K : ∀ s t r, G s → s.rest = t :: r → G ⟨r, s.e, s.at_⟩) (F : ∀ s, G s → ∀ x c, ¬ c = 0 → posG C G x → G (s.fail x c)) (n : Nat) (s : St) (h : G s) : G ((epM C n).1 s).2 ∧ G ((epM C n).2 s).2 := by
  have := sim_ep (rels_self K F) 0 (fun s s' hs => by
    obtain ⟨rfl, hg⟩ := hs
    exact ⟨.inl ⟨rfl, rfl, F s hg _ _ (by decide) (here_pos hg)⟩, .inl ⟨rfl, rfl, F s hg _ _ (by decide) (here_pos hg)⟩⟩) n s s ⟨rfl, h⟩
  rcases this with ⟨⟨_, _, h1⟩ | h1, ⟨_, _, h2⟩ | h2⟩
  · exact ⟨h1, h2⟩
  · exact h2.1.elim
  · exact h1.1.elim
  · exact h1.1.elim
/-- Tokens of a list, or an error at one's place, or at the end. -/
def Good (C : Cfg) (l : List Tok) (s : St) : Prop := (s.e = 0 ∧ ∃ d, l = d ++ s.rest) ∨ (¬ s.e = 0 ∧ s.rest = [] ∧ (s.at_ = C.fin ∨ ∃ t ∈ l, s.at_ = t.at_))
theorem good_ep (C : Cfg) (l : List Tok) (n : Nat) (s : St) (h : Good C l s) : Good C l ((epM C n).1 s).2 ∧ Good C l ((epM C n).2 s).2 := by
  refine kept_ep ?_ ?_ n s h
  · rintro s t r h hr
    rcases h with ⟨h1, d, rfl⟩ | ⟨_, h2, _⟩
    · exact .inl ⟨h1, d ++ [t], by rw [hr]; simp⟩
    · rw [h2] at hr; cases hr
  · rintro s h x c hc hx
    unfold St.fail
    by_cases he : s.e = 0
    · rw [if_pos he]
      refine .inr ⟨hc, rfl, ?_⟩
      rcases hx with hx | ⟨s1, h1, t, ht, hx⟩
      · exact .inl hx
      · rcases h1 with ⟨_, d, rfl⟩ | ⟨_, h2, _⟩
        · exact .inr ⟨t, by simp [ht], hx⟩
        · rw [h2] at ht; cases ht
    · rw [if_neg he]
      rcases h with ⟨h1, _⟩ | ⟨h1, h2, h3⟩
      · exact absurd h1 he
      · exact .inr ⟨h1, rfl, h3⟩
theorem len_ep (C : Cfg) (n : Nat) (s : St) : ((epM C n).1 s).2.rest.length ≤ s.rest.length ∧ ((epM C n).2 s).2.rest.length ≤ s.rest.length := by
  refine kept_ep (G := fun t => t.rest.length ≤ s.rest.length) ?_ ?_ n s (Nat.le_refl _)
  · rintro s t r h hr; rw [hr] at h; simp only [List.length_cons] at h ⊢; omega
  · rintro s h x c _ _
    unfold St.fail
    split <;> simp
/-! ### Blanks ahead -/
def shT (k : Int) (t : Tok) : Tok := ⟨t.kind, t.text, t.num, t.at_ + k⟩
def shS (k : Int) (s : St) : St := ⟨s.rest.map (shT k), s.e, if s.e = 0 then s.at_ else s.at_ + k⟩
theorem sees_core {ps : List Test} (h : ∀ p ∈ ps, Core p) : ∀ {l l' : List Tok}, All2 coreT l l' → sees ps l' = sees ps l := by
  induction ps with
  | nil => intro l l' _; cases l <;> cases l' <;> rfl
  | cons p ps ih =>
    intro l l' hl
    cases hl with
    | nil => rfl
    | cons ht hs => unfold sees; rw [ih (fun q hq => h q (by simp [hq])) hs, h p (by simp) _ _ ht]
theorem sh_core (k : Int) (l : List Tok) : All2 coreT l (l.map (shT k)) := by
  induction l with
  | nil => exact .nil
  | cons t l ih => exact .cons ⟨rfl, rfl, rfl⟩ ih
theorem rels_sh (C : Cfg) (k : Int) : Rels C ⟨C.fin + k, C.fs, C.climb⟩ False (fun s s' => s' = shS k s) (fun x x' => x' = x + k) where
  fs := rfl
  climb := rfl
  see := by rintro s _ ps rfl h; exact sees_core (fun p hp => (h p hp).1) (sh_core k _)
  tk := by
    rintro s _ p rfl hp
    refine .inl ⟨sees_core (by intro q hq; simp at hq; subst hq; exact hp) (sh_core k _), fun hs => ?_⟩
    obtain ⟨t, r, hr⟩ := head_of hs
    simp only [shS, hr]
    exact ⟨⟨⟨rfl, rfl, rfl⟩, rfl⟩, rfl⟩
  here := by
    rintro s _ rfl
    unfold here shS
    cases s.rest <;> rfl
  fail := by
    rintro s _ x _ c hc rfl rfl
    refine .inl ?_
    obtain ⟨r, e, a⟩ := s
    by_cases he : e = 0
    · subst he; simp [St.fail, shS, hc]
    · simp [St.fail, shS, he]
theorem sh_ep (C : Cfg) (k : Int) (n : Nat) (s : St) : (epM ⟨C.fin + k, C.fs, C.climb⟩ n).1 (shS k s) = (((epM C n).1 s).1, shS k ((epM C n).1 s).2) := by
  have H := rels_sh C k
  have := (sim_ep H 0 (fun s s' hs => by
    have h1 := H.fail s s' _ _ 73 (by decide) hs (H.here s s' hs)
    rcases h1 with h1 | h1
    · exact ⟨.inl ⟨rfl, h1⟩, .inl ⟨rfl, h1⟩⟩
    · exact h1.1.elim) n s _ rfl).1
  rcases this with ⟨h1, h2⟩ | h1
  · exact Prod.ext h1.symm h2
  · exact h1.1.elim
/-! ### One in brackets -/
def isRp (t : Tok) : Prop := t.kind = 6 ∧ t.text = wRp
def isLp (t : Tok) : Prop := t.kind = 6 ∧ t.text = wLp
theorem sees_cut {ps : List Test} (h : Ahead ps) {rp : Tok} (hr : isRp rp) (r : List Tok) : ∀ m : List Tok, sees ps (m ++ rp :: r) = sees ps m := by
  induction ps with
  | nil => intro m; cases m <;> rfl
  | cons p ps ih =>
    intro m
    cases m with
    | nil => show (p rp && _) = false; rw [(h p (by simp)).2 rp hr.1 hr.2]; rfl
    | cons t m => rw [List.cons_append]; show (p t && _) = (p t && _); rw [ih (fun q hq => h q (by simp [hq]))]
def CutR (r : List Tok) (s s' : St) : Prop := s.e = 0 ∧ s'.e = 0 ∧ ∃ m, All2 coreT s.rest m ∧ s'.rest = m ++ r
theorem fail_ok {s : St} (h : s.e = 0) (x c : Int) : s.fail x c = ⟨[], c, x⟩ := by unfold St.fail; rw [if_pos h]
theorem rels_cut (C : Cfg) (fin : Int) {rp : Tok} (hr : isRp rp) (r : List Tok) : Rels C ⟨fin, C.fs, C.climb⟩ True (CutR (rp :: r)) (fun _ _ => True) where
  fs := rfl
  climb := rfl
  see := by
    rintro s s' ps ⟨_, _, m, hm, e⟩ h
    rw [e, sees_cut h hr, sees_core (fun p hp => (h p hp).1) hm]
  tk := by
    rintro s s' p ⟨h1, h2, m, hm, e⟩ hp
    cases hs : s.rest with
    | nil =>
      right
      refine ⟨trivial, .inl ?_⟩
      unfold take
      rw [hs]
      simp [sees, fail_ok h1, Stuck]
    | cons t l =>
      left
      rw [hs] at hm
      cases hm with
      | cons ht hl =>
        rename_i t' l'
        rw [e]
        refine ⟨?_, fun _ => ⟨⟨ht, trivial⟩, h1, h2, _, hl, rfl⟩⟩
        show (p t' && _) = (p t && _)
        rw [hp _ _ ht]
        rfl
  here := fun _ _ _ => trivial
  fail := by
    rintro s s' x x' c hc ⟨h1, h2, _⟩ _
    exact .inr ⟨trivial, .inl (by rw [fail_ok h1]; exact ⟨hc, rfl⟩)⟩
/-- What is read by itself is read ahead of what closes, or too deep. -/
theorem cut_ep (C : Cfg) (fin : Int) {rp : Tok} (hr : isRp rp) (r : List Tok) (n k : Nat) (l m : List Tok) (hm : All2 coreT l m) {x : List Nd} {a : Int} (h : (epM C (n + k)).1 ⟨l, 0, 0⟩ = (x, ⟨[], 0, a⟩)) (a' : Int) :
    (∃ b, (epM ⟨fin, C.fs, C.climb⟩ n).1 ⟨m ++ rp :: r, 0, a'⟩ = (x, ⟨rp :: r, 0, b⟩)) ∨ ∃ y b, (epM ⟨fin, C.fs, C.climb⟩ n).1 ⟨m ++ rp :: r, 0, a'⟩ = (y, ⟨[], 73, b⟩) := by
  have H := rels_cut C fin hr r
  have := (sim_ep H k (fun s s' hs => by
    have h1 : Stuck (deepM ⟨fin, C.fs, C.climb⟩ s').2 ∧ (deepM ⟨fin, C.fs, C.climb⟩ s').2.e = 73 := by
      unfold deepM
      rw [fail_ok hs.2.1]
      exact ⟨⟨by simp, rfl⟩, rfl⟩
    exact ⟨.inr ⟨trivial, .inr h1⟩, .inr ⟨trivial, .inr h1⟩⟩) n ⟨l, 0, 0⟩ ⟨m ++ rp :: r, 0, a'⟩ ⟨rfl, rfl, m, hm, rfl⟩).1
  rw [h] at this
  cases hq : (epM ⟨fin, C.fs, C.climb⟩ n).1 ⟨m ++ rp :: r, 0, a'⟩ with
  | mk y t =>
  rw [hq] at this
  obtain ⟨tr, te, ta⟩ := t
  rcases this with ⟨rfl, _, h2, m', hm', h3⟩ | ⟨_, h1 | ⟨h1, h2⟩⟩
  · cases hm'
    simp only at h2 h3
    left
    exact ⟨ta, by rw [h2, h3]; rfl⟩
  · exact absurd rfl h1.1
  · simp only at h2
    right
    exact ⟨y, ta, by rw [h2, show tr = [] from h1.2]⟩
/-! ### How much is made -/
/-- Texts that are short. -/
def Sm (L : Nat) (l : List Tok) : Prop := ∀ t ∈ l, t.text.size ≤ L
def Vx (L : Nat) (ns : List Nd) : Prop := ∀ n ∈ ns, n.text.size ≤ L
theorem Sm.nil (L : Nat) : Sm L [] := fun _ h => by cases h
theorem Vx.nil (L : Nat) : Vx L [] := fun _ h => by cases h
theorem Vx.one {L : Nat} {n : Nd} (h : n.text.size ≤ L) : Vx L [n] := fun m hm => by simp at hm; subst hm; exact h
theorem Vx.app {L : Nat} {a b : List Nd} (h : Vx L a) (h' : Vx L b) : Vx L (a ++ b) := fun n hn => (List.mem_append.1 hn).elim (h n) (h' n)
theorem Vx.mk {L : Nat} {n : Nd} {Ls : List (List Nd)} (h : n.text.size ≤ L) (h' : Vx L Ls.flatten) : Vx L (makeN n Ls) := fun m hm => by
  rcases List.mem_cons.1 hm with rfl | hm
  · exact h
  · exact h' m hm
theorem size_empty (L : Nat) : ByteArray.empty.size ≤ L := Nat.zero_le _
theorem makeN_len (n : Nd) (Ls : List (List Nd)) : (makeN n Ls).length = Ls.flatten.length + 1 := rfl
theorem fail_sm {L : Nat} {s : St} (x c : Int) : Sm L (s.fail x c).rest ∧ (s.fail x c).rest.length = 0 := by
  unfold St.fail
  split <;> exact ⟨Sm.nil L, rfl⟩
def Sz (L : Nat) (F : Par) : Prop := ∀ s, Sm L s.rest → (F s).1.length + 5 * (F s).2.rest.length ≤ 5 * s.rest.length + 1 ∧ Vx L (F s).1 ∧ Sm L (F s).2.rest
section
variable {C : Cfg} {L : Nat}
theorem take_sz (p : Test) {s : St} (h : Sm L s.rest) : (take C p s).2.rest.length ≤ s.rest.length ∧ (take C p s).1.text.size ≤ L ∧ Sm L (take C p s).2.rest ∧ (sees [p] s.rest = true → (take C p s).2.rest.length + 1 = s.rest.length) := by
  unfold take
  split
  · rename_i hs
    obtain ⟨t, r, hr⟩ := head_of hs
    rw [hr] at h ⊢
    exact ⟨by simp, h t (by simp), fun u hu => h u (by simp at hu; simp [hu]), fun _ => by simp⟩
  · rename_i hs
    have := fail_sm (L := L) (s := s) (here C s) 70
    exact ⟨by rw [this.2]; omega, size_empty L, this.1, fun h => absurd h hs⟩
theorem take_none {p : Test} {s : St} (h : ¬ sees [p] s.rest = true) : (take C p s).2.rest = [] ∧ (take C p s).1 = tok0 := by
  unfold take
  rw [if_neg h]
  refine ⟨?_, rfl⟩
  show (s.fail _ _).rest = []
  unfold St.fail
  split <;> rfl
theorem bind_sz {s : St} (h : Sm L s.rest) : (bindM C s).2.rest.length ≤ s.rest.length ∧ (bindM C s).1.size ≤ L ∧ Sm L (bindM C s).2.rest ∧ (sees [isKey wLp] s.rest = true ∨ sees [isKind [1]] s.rest = true → (bindM C s).2.rest.length + 1 ≤ s.rest.length) := by
  unfold bindM
  have h1 := take_sz (C := C) (isKey wLp) h
  have h2 := take_sz (C := C) (isKind [5]) h1.2.2.1
  have h3 := take_sz (C := C) (isKey wRp) h2.2.2.1
  have h4 := take_sz (C := C) (isKind [1]) h
  split
  · rename_i hs
    have := h1.2.2.2 hs
    exact ⟨by simp only; omega, h2.2.1, h3.2.2.1, fun _ => by simp only; omega⟩
  · rename_i hs
    refine ⟨h4.1, h4.2.1, h4.2.2.1, fun h => ?_⟩
    rcases h with h | h
    · exact absurd h hs
    · exact Nat.le_of_eq (h4.2.2.2 h)
variable {E P : Par} (zE : Sz L E) (zP : Sz L P)
include zE zP
/-- How many exprs and pats a rule has. -/
def cw : List ByteArray → Nat
  | [] => 0
  | x :: ws => if x = wBind then cw ws else if x = wExpr then cw ws + 1 else if x = wPat then cw ws + 1 else cw ws
theorem partsM_sz : ∀ (ws : List ByteArray) (nm : ByteArray) (kids : List (List Nd)) (s : St), Sm L s.rest → nm.size ≤ L → Vx L kids.flatten →
    (partsM C E P ws nm kids s).1.2.flatten.length + 5 * (partsM C E P ws nm kids s).2.rest.length ≤ kids.flatten.length + 5 * s.rest.length + cw ws ∧ (partsM C E P ws nm kids s).1.2.length = kids.length + cw ws ∧
    (partsM C E P ws nm kids s).1.1.size ≤ L ∧ Vx L (partsM C E P ws nm kids s).1.2.flatten ∧ Sm L (partsM C E P ws nm kids s).2.rest ∧ (partsM C E P ws nm kids s).2.rest.length ≤ s.rest.length := by
  intro ws
  induction ws with
  | nil => intro nm kids s h1 h2 h3; exact ⟨by simp [partsM, cw], by simp [partsM, cw], h2, h3, h1, Nat.le_refl _⟩
  | cons x ws ih =>
    intro nm kids s h1 h2 h3
    unfold partsM cw
    split
    · have hb := bind_sz (C := C) h1
      have := ih (bindM C s).1 kids (bindM C s).2 hb.2.2.1 hb.2.1 h3
      exact ⟨by omega, this.2.1, this.2.2.1, this.2.2.2.1, this.2.2.2.2.1, by omega⟩
    · split
      · have hb := zE s h1
        have := ih nm (kids ++ [(E s).1]) (E s).2 hb.2.2 h2 (by rw [List.flatten_append]; exact h3.app (by simpa using hb.2.1))
        rw [List.flatten_append, List.length_append, List.length_append] at this
        simp only [List.flatten_cons, List.flatten_nil, List.append_nil, List.length_cons, List.length_nil] at this
        exact ⟨by omega, by omega, this.2.2.1, this.2.2.2.1, this.2.2.2.2.1, by omega⟩
      · split
        · have hb := zP s h1
          have := ih nm (kids ++ [(P s).1]) (P s).2 hb.2.2 h2 (by rw [List.flatten_append]; exact h3.app (by simpa using hb.2.1))
          rw [List.flatten_append, List.length_append, List.length_append] at this
          simp only [List.flatten_cons, List.flatten_nil, List.append_nil, List.length_cons, List.length_nil] at this
          exact ⟨by omega, by omega, this.2.2.1, this.2.2.2.1, this.2.2.2.2.1, by omega⟩
        · have hb := take_sz (C := C) (isKey x) h1
          have := ih nm kids (take C (isKey x) s).2 hb.2.2.1 h2 h3
          exact ⟨by omega, this.2.1, this.2.2.1, this.2.2.2.1, this.2.2.2.2.1, by omega⟩
/-- A rule whose first word is seen. -/
theorem parts0_sz (x : ByteArray) (ws : List ByteArray) (hx : ¬ x = wBind ∧ ¬ x = wExpr ∧ ¬ x = wPat) (s : St) (h : Sm L s.rest) :
    (parts0 C E P (x :: ws) s).1.2.flatten.length + 5 * (parts0 C E P (x :: ws) s).2.rest.length ≤ 5 * s.rest.length + cw ws ∧ (parts0 C E P (x :: ws) s).1.2.length = cw ws ∧
    (parts0 C E P (x :: ws) s).1.1.size ≤ L ∧ Vx L (parts0 C E P (x :: ws) s).1.2.flatten ∧ Sm L (parts0 C E P (x :: ws) s).2.rest ∧ (parts0 C E P (x :: ws) s).2.rest.length ≤ s.rest.length ∧
    (sees [isKey x] s.rest = true → (parts0 C E P (x :: ws) s).1.2.flatten.length + 5 * (parts0 C E P (x :: ws) s).2.rest.length + 5 ≤ 5 * s.rest.length + cw ws ∧ (parts0 C E P (x :: ws) s).2.rest.length + 1 ≤ s.rest.length) := by
  unfold parts0 partsM
  rw [if_neg hx.1, if_neg hx.2.1, if_neg hx.2.2]
  have hb := take_sz (C := C) (isKey x) h
  have := partsM_sz zE zP (C := C) ws ByteArray.empty [] (take C (isKey x) s).2 hb.2.2.1 (size_empty L) (Vx.nil L)
  simp only [List.flatten_nil, List.length_nil, Nat.zero_add] at this
  refine ⟨by omega, this.2.1, this.2.2.1, this.2.2.2.1, this.2.2.2.2.1, by omega, fun hs => ?_⟩
  have := hb.2.2.2 hs
  exact ⟨by omega, by omega⟩
theorem form_sz (k : Int) (x : ByteArray) (ws : List ByteArray) (hx : ¬ x = wBind ∧ ¬ x = wExpr ∧ ¬ x = wPat) (hw : cw ws ≤ 5) (s : St) (h : Sm L s.rest) (hs : sees [isKey x] s.rest = true) :
    (formM C E P k (x :: ws) s).1.length + 5 * (formM C E P k (x :: ws) s).2.rest.length ≤ 5 * s.rest.length + 1 ∧ Vx L (formM C E P k (x :: ws) s).1 ∧ Sm L (formM C E P k (x :: ws) s).2.rest := by
  have := parts0_sz zE zP (C := C) x ws hx s h
  have h1 := this.2.2.2.2.2.2 hs
  refine ⟨?_, Vx.mk this.2.2.1 this.2.2.2.1, this.2.2.2.2.1⟩
  show (makeN _ _).length + _ ≤ _
  rw [makeN_len]
  show _ + 1 + 5 * (parts0 C E P (x :: ws) s).2.rest.length ≤ _
  omega
theorem armsM_sz (k : Nat) : ∀ (kids : List (List Nd)) (s : St), Sm L s.rest → Vx L kids.flatten →
    (armsM C E P k kids s).1.flatten.length + 5 * (armsM C E P k kids s).2.rest.length ≤ kids.flatten.length + 5 * s.rest.length ∧ (armsM C E P k kids s).1.length + 2 * (armsM C E P k kids s).2.rest.length ≤ kids.length + 2 * s.rest.length ∧
    Vx L (armsM C E P k kids s).1.flatten ∧ Sm L (armsM C E P k kids s).2.rest := by
  induction k with
  | zero => intro kids s h1 h2; exact ⟨Nat.le_refl _, Nat.le_refl _, h2, h1⟩
  | succ k ih =>
    intro kids s h1 h2
    unfold armsM
    split
    · rename_i hs
      have h3 := parts0_sz zE zP (C := C) wBar [wPat, wArrow, wExpr] (by decide) s h1
      have h4 := h3.2.2.2.2.2.2 hs
      have hc : cw [wPat, wArrow, wExpr] = 2 := by decide
      rw [hc] at h3 h4
      have := ih (kids ++ (parts0 C E P rArm s).1.2) (parts0 C E P rArm s).2 h3.2.2.2.2.1 (by rw [List.flatten_append]; exact h2.app h3.2.2.2.1)
      rw [List.flatten_append, List.length_append, List.length_append] at this
      have e : rArm = wBar :: [wPat, wArrow, wExpr] := rfl
      rw [← e] at h3 h4
      exact ⟨by omega, by omega, this.2.2.1, this.2.2.2⟩
    · exact ⟨Nat.le_refl _, Nat.le_refl _, h2, h1⟩
theorem arms0_sz (s : St) (h : Sm L s.rest) (hs : sees [isKey wMatch] s.rest = true) :
    (arms0 C E P s).1.flatten.length + 5 * (arms0 C E P s).2.rest.length + 2 ≤ 5 * s.rest.length ∧ (arms0 C E P s).1.length ≤ 2 * s.rest.length + 1 ∧ Vx L (arms0 C E P s).1.flatten ∧ Sm L (arms0 C E P s).2.rest := by
  have h3 := parts0_sz zE zP (C := C) wMatch [wExpr, wWith, wPat, wArrow, wExpr] (by decide) s h
  have h4 := h3.2.2.2.2.2.2 hs
  have hc : cw [wExpr, wWith, wPat, wArrow, wExpr] = 3 := by decide
  rw [hc] at h3 h4
  have e : rMatch = wMatch :: [wExpr, wWith, wPat, wArrow, wExpr] := rfl
  rw [← e] at h3 h4
  have := armsM_sz zE zP (C := C) 1000 _ _ h3.2.2.2.2.1 h3.2.2.2.1
  refine ⟨?_, ?_, this.2.2.1, this.2.2.2⟩
  · exact Nat.le_trans (Nat.add_le_add_right this.1 2) (by omega)
  · have h5 := this.2.1
    rw [h3.2.1] at h5
    unfold arms0
    omega
theorem match_sz (s : St) (h : Sm L s.rest) (hs : sees [isKey wMatch] s.rest = true) : (matchM C E P s).1.length + 5 * (matchM C E P s).2.rest.length + 1 ≤ 5 * s.rest.length ∧ Vx L (matchM C E P s).1 ∧ Sm L (matchM C E P s).2.rest := by
  have := arms0_sz zE zP (C := C) s h hs
  have ht := take_sz (C := C) (isKey wEnd) this.2.2.2
  unfold matchM
  refine ⟨?_, Vx.mk (size_empty L) this.2.2.1, ht.2.2.1⟩
  rw [makeN_len]
  have h1 := ht.1
  simp only
  omega
omit zE zP in
theorem leaf_sz {t : Tok} (h : t.text.size ≤ L) : (leafN t).length = 1 ∧ Vx L (leafN t) := by
  unfold leafN
  repeat' split
  all_goals exact ⟨rfl, Vx.one (by first | exact h | exact size_empty L)⟩
omit zE zP in
theorem head_sz {l : List (List Nd)} (h : Vx L l.flatten) : (l.headD []).length ≤ l.flatten.length ∧ Vx L (l.headD []) := by
  cases l with
  | nil => exact ⟨Nat.le_refl _, h⟩
  | cons a l => exact ⟨by simp, fun n hn => h n (by simp at hn ⊢; exact .inl hn)⟩
omit zE zP in
theorem see_two {p q : Test} {l : List Tok} (h : sees [p, q] l = true) : sees [p] l = true := by
  obtain ⟨t, r, rfl⟩ := head_of h
  simp [sees] at h ⊢
  exact h.1
omit zE zP in
theorem see_beg {ps : List Test} {l : List Tok} : sees [either ps] l = true ↔ ∃ p ∈ ps, sees [p] l = true := by
  cases l with
  | nil => simp [sees]
  | cons t r => simp [sees, either]
theorem atom_sz (s : St) (h : Sm L s.rest) : (atomM C E P s).1.length + 5 * (atomM C E P s).2.rest.length ≤ 5 * s.rest.length + 1 ∧ Vx L (atomM C E P s).1 ∧ Sm L (atomM C E P s).2.rest ∧ (sees [either begA] s.rest = true → (atomM C E P s).1.length + 5 * (atomM C E P s).2.rest.length + 1 ≤ 5 * s.rest.length) := by
  unfold atomM
  split
  · rename_i hs
    have := match_sz zE zP (C := C) s h hs
    exact ⟨by omega, this.2.1, this.2.2, fun _ => this.1⟩
  · split
    · rename_i hs
      have := bind_sz (C := C) h
      have h1 := this.2.2.2 (.inl (see_two hs))
      refine ⟨?_, Vx.one this.2.1, this.2.2.1, fun _ => ?_⟩ <;> (simp only [List.length_cons, List.length_nil]; omega)
    · split
      · rename_i hs
        have h3 := parts0_sz zE zP (C := C) wLp [wExpr, wRp] (by decide) s h
        have h4 := h3.2.2.2.2.2.2 hs
        have hc : cw [wExpr, wRp] = 1 := by decide
        rw [hc] at h3 h4
        have e : rParen = wLp :: [wExpr, wRp] := rfl
        rw [← e] at h3 h4
        have h5 := head_sz h3.2.2.2.1
        refine ⟨?_, h5.2, h3.2.2.2.2.1, fun _ => ?_⟩ <;> (simp only; omega)
      · rename_i n1 _ n3
        have := take_sz (C := C) (isKind leafK) h
        have hl := leaf_sz this.2.1
        refine ⟨?_, hl.2, this.2.2.1, fun hb => ?_⟩
        · rw [hl.1]; have := this.1; simp only; omega
        · obtain ⟨p, hp, hs⟩ := see_beg.1 hb
          simp [begA] at hp
          rcases hp with rfl | rfl | rfl
          · rw [hl.1]; have := this.2.2.2 hs; simp only; omega
          · exact absurd hs n3
          · exact absurd hs n1
theorem appL_beg (k : Nat) : ∀ s, Sm L s.rest → sees [either begA] s.rest = true → (appL C E P k s).1.flatten.length + (appL C E P k s).1.length + 5 * (appL C E P k s).2.rest.length ≤ 5 * s.rest.length ∧ (appL C E P k s).1.length ≤ s.rest.length ∧ Vx L (appL C E P k s).1.flatten ∧ Sm L (appL C E P k s).2.rest := by
  induction k with
  | zero =>
    intro s h hs
    have := atom_sz zE zP (C := C) s h
    have h1 := this.2.2.2 hs
    unfold appL
    refine ⟨?_, ?_, by simpa using this.2.1, this.2.2.1⟩ <;> (simp only [List.flatten_cons, List.flatten_nil, List.append_nil, List.length_cons, List.length_nil]; omega)
  | succ k ih =>
    intro s h hs
    have := atom_sz zE zP (C := C) s h
    have h1 := this.2.2.2 hs
    unfold appL
    split
    · rename_i hs2
      have h2 := ih _ this.2.2.1 hs2
      refine ⟨?_, ?_, by simpa using this.2.1.app h2.2.2.1, h2.2.2.2⟩ <;> (simp only [List.flatten_cons, List.length_append, List.length_cons]; omega)
    · refine ⟨?_, ?_, by simpa using this.2.1, this.2.2.1⟩ <;> (simp only [List.flatten_cons, List.flatten_nil, List.append_nil, List.length_cons, List.length_nil]; omega)
theorem appL_sz (k : Nat) (s : St) (h : Sm L s.rest) : (appL C E P k s).1.flatten.length + ((appL C E P k s).1.length - 1) + 5 * (appL C E P k s).2.rest.length ≤ 5 * s.rest.length + 1 ∧ (appL C E P k s).1.length ≤ s.rest.length + 1 ∧ Vx L (appL C E P k s).1.flatten ∧ Sm L (appL C E P k s).2.rest ∧ (appL C E P k s).2.rest.length ≤ s.rest.length := by
  have := atom_sz zE zP (C := C) s h
  cases k with
  | zero =>
    unfold appL
    refine ⟨?_, by simp, by simpa using this.2.1, this.2.2.1, ?_⟩ <;> (simp only [List.flatten_cons, List.flatten_nil, List.append_nil, List.length_cons, List.length_nil]; omega)
  | succ k =>
    unfold appL
    split
    · rename_i hs2
      have h2 := appL_beg zE zP (C := C) k _ this.2.2.1 hs2
      refine ⟨?_, ?_, by simpa using this.2.1.app h2.2.2.1, h2.2.2.2, ?_⟩ <;> (simp only [List.flatten_cons, List.length_append, List.length_cons]; omega)
    · refine ⟨?_, by simp, by simpa using this.2.1, this.2.2.1, ?_⟩ <;> (simp only [List.flatten_cons, List.flatten_nil, List.append_nil, List.length_cons, List.length_nil]; omega)
omit zE zP in
theorem appN_sz {zs : List (List Nd)} (h : Vx L zs.flatten) : (appN zs).length = zs.flatten.length + (zs.length - 1) ∧ Vx L (appN zs) := by
  unfold appN
  refine ⟨by simp; omega, ?_⟩
  refine Vx.app (fun n hn => ?_) h
  rw [(List.mem_replicate.1 hn).2]
  exact size_empty L
theorem app_sz : Sz L (appM C E P) := fun s h => by
  have := appL_sz zE zP (C := C) 1000 s h
  have h2 := appN_sz this.2.2.1
  unfold appM
  exact ⟨by simp only; omega, h2.2, this.2.2.2.1⟩
theorem opsL_sz (k : Nat) : ∀ s, Sm L s.rest → (opsL C E P k s).1.2.flatten.length + 3 * (opsL C E P k s).1.1.length + 5 * (opsL C E P k s).2.rest.length ≤ 5 * s.rest.length ∧ (opsL C E P k s).1.2.length = (opsL C E P k s).1.1.length ∧ (opsL C E P k s).1.1.length ≤ s.rest.length ∧
    Vx L (opsL C E P k s).1.2.flatten ∧ Sm L (opsL C E P k s).1.1 ∧ Sm L (opsL C E P k s).2.rest := by
  induction k with
  | zero => intro s h; exact ⟨by simp [opsL], rfl, Nat.zero_le _, Vx.nil L, Sm.nil L, h⟩
  | succ k ih =>
    intro s h
    unfold opsL
    split
    · rename_i hs
      have h1 := take_sz (C := C) (isKind [5]) h
      have h2 := h1.2.2.2 hs
      have h3 := app_sz zE zP (C := C) _ h1.2.2.1
      have h4 := ih _ h3.2.2
      refine ⟨?_, ?_, ?_, ?_, ?_, h4.2.2.2.2.2⟩
      · simp only [List.flatten_cons, List.length_append, List.length_cons]; omega
      · simp only [List.length_cons]; omega
      · simp only [List.length_cons]; omega
      · simpa using h3.2.1.app h4.2.2.2.1
      · intro t ht
        rcases List.mem_cons.1 ht with rfl | ht
        · exact h1.2.1
        · exact h4.2.2.2.2.1 t ht
    · exact ⟨by simp, rfl, Nat.zero_le _, Vx.nil L, Sm.nil L, h⟩
end
/-! ### A row's structure -/
/-- A row's numbers, in their row. -/
def rowK : Int → Nat → List Int
  | fr, 0 => [-1 - fr]
  | fr, n + 1 => (-1 - fr) :: fr :: rowK (fr + 1) n
/-- How operators bind is their row in another order, or nothing. -/
def Rowed (C : Cfg) : Prop := ∀ fs ss, (C.climb fs ss).1 = [] ∨ ((C.climb fs ss).1.Perm (rowK 0 ss.length) ∧ (C.climb fs ss).2 = 0)
theorem rowK_mem (n : Nat) : ∀ fr : Int, 0 ≤ fr → ∀ k ∈ rowK fr n, (k < 0 ∧ fr ≤ -1 - k ∧ -1 - k ≤ fr + n) ∨ (0 ≤ k ∧ fr ≤ k ∧ k < fr + n) := by
  induction n with
  | zero => intro fr h k hk; simp [rowK] at hk; subst hk; exact .inl (by omega)
  | succ n ih =>
    intro fr h k hk
    simp [rowK] at hk
    rcases hk with rfl | rfl | hk
    · exact .inl (by omega)
    · exact .inr (by omega)
    · rcases ih (fr + 1) (by omega) k hk with h | h
      · exact .inl (by omega)
      · exact .inr (by omega)
theorem flat_len {α β : Type} (f : α → List β) (l : List α) : (l.flatMap f).length = (l.map fun x => (f x).length).sum := by
  induction l with
  | nil => rfl
  | cons a l ih => simp [ih]
theorem perm_len {α β : Type} (f : α → List β) {l l' : List α} (h : l.Perm l') : (l.flatMap f).length = (l'.flatMap f).length := by
  induction h with
  | nil => rfl
  | cons x _ ih => simp [ih]
  | swap x y l => simp; omega
  | trans _ _ h1 h2 => exact h1.trans h2
theorem rowK_sz (ops : List Tok) (zs : List (List Nd)) (n : Nat) : ∀ j : Nat, n + j + 1 = zs.length → ((rowK (j : Int) n).flatMap (opN ops zs)).length = (zs.drop j).flatten.length + 3 * n := by
  induction n with
  | zero =>
    intro j h
    have e : zs.drop j = [zs.getD j []] := by
      rw [List.getD_eq_getElem?_getD, List.getElem?_eq_getElem (by omega), List.drop_eq_getElem_cons (by omega), List.drop_eq_nil_of_le (by omega)]
      rfl
    have : (-1 - (-1 - (j : Int))).toNat = j := by omega
    have h1 : (-1 - (j : Int)) < 0 := by omega
    simp [rowK, opN, h1, this, e]
  | succ n ih =>
    intro j h
    have e : zs.drop j = zs.getD j [] :: zs.drop (j + 1) := by
      rw [List.getD_eq_getElem?_getD, List.getElem?_eq_getElem (by omega), List.drop_eq_getElem_cons (by omega)]
      rfl
    have h2 := ih (j + 1) (by omega)
    have : (-1 - (-1 - (j : Int))).toNat = j := by omega
    have h1 : (-1 - (j : Int)) < 0 := by omega
    have h0 : ¬ ((j : Int) < 0) := by omega
    rw [show ((j + 1 : Nat) : Int) = (j : Int) + 1 by omega] at h2
    simp only [rowK, List.flatMap_cons, List.length_append, h2, e, List.flatten_cons]
    simp only [opN, h1, if_true, this, h0, if_false]
    simp
    omega
theorem opN_vx {L : Nat} {ops : List Tok} {zs : List (List Nd)} (h : Sm L ops) (h' : Vx L zs.flatten) (k : Int) : Vx L (opN ops zs k) := by
  unfold opN
  split
  · intro n hn
    rw [List.getD_eq_getElem?_getD] at hn
    cases hq : zs[(-1 - k).toNat]? with
    | none => rw [hq] at hn; simp at hn
    | some a =>
      rw [hq] at hn
      exact h' n (List.mem_flatten.2 ⟨a, List.mem_of_getElem? hq, hn⟩)
  · intro n hn
    simp at hn
    rcases hn with rfl | rfl
    · exact size_empty L
    · show (ops.getD k.toNat tok0).text.size ≤ L
      rw [List.getD_eq_getElem?_getD]
      cases hq : ops[k.toNat]? with
      | none => exact size_empty L
      | some t => exact h t (List.mem_of_getElem? hq)
theorem struct_row {C : Cfg} (hR : Rowed C) (x : Int) (ops : List Tok) (s : St) : (structM C x ops s).1 = [] ∨ (structM C x ops s).1.Perm (rowK 0 ops.length) := by
  unfold structM
  split
  · exact .inl rfl
  · rcases hR (needF C ops) (ops.map Tok.text) with h | h
    · exact .inl h
    · right; simpa using h.1
theorem struct_rest {C : Cfg} {L : Nat} (x : Int) (ops : List Tok) (s : St) (h : Sm L s.rest) : (structM C x ops s).2.rest.length ≤ s.rest.length ∧ Sm L (structM C x ops s).2.rest := by
  have hf := fun x c => fail_sm (L := L) (s := s) x c
  unfold structM
  split
  · exact ⟨by simp only; rw [(hf _ _).2]; omega, (hf _ _).1⟩
  · simp only
    split
    · exact ⟨Nat.le_refl _, h⟩
    · exact ⟨by rw [(hf _ _).2]; omega, (hf _ _).1⟩
section
variable {C : Cfg} {L : Nat} (hR : Rowed C) {E P : Par} (zE : Sz L E) (zP : Sz L P)
include hR zE zP
theorem row_sz : Sz L (rowM C E P) := fun s h => by
  have h1 := app_sz zE zP (C := C) s h
  have h2 := opsL_sz zE zP (C := C) 1000 _ h1.2.2
  rw [rowM_eq, rowT_eq]
  generalize appM C E P s = X at h1 h2 ⊢
  obtain ⟨a, t⟩ := X
  simp only at h1 h2 ⊢
  generalize opsL C E P 1000 t = Y at h2 ⊢
  obtain ⟨⟨ops, zs⟩, u⟩ := Y
  simp only at h2 ⊢
  unfold rowU
  split
  · rename_i h0
    simp only at h0
    subst h0
    refine ⟨?_, h1.2.1, h2.2.2.2.2.2⟩
    simp only [List.length_nil] at h2 ⊢
    omega
  · have h3 := struct_rest (C := C) (here C s) ops u h2.2.2.2.2.2
    refine ⟨?_, ?_, h3.2⟩
    · rcases struct_row hR (here C s) ops u with h4 | h4
      · simp only [h4, List.flatMap_nil, List.length_nil]; omega
      · have h5 := rowK_sz ops (a :: zs) ops.length 0 (by simp; omega)
        rw [show ((0 : Nat) : Int) = 0 from rfl] at h5
        simp only [perm_len _ h4, h5, List.drop_zero, List.flatten_cons, List.length_append]
        omega
    · intro n hn
      simp only [List.mem_flatMap] at hn
      obtain ⟨k, _, hk⟩ := hn
      exact opN_vx h2.2.2.2.2.1 (by simpa using h1.2.1.app h2.2.2.2.1) k n hk
theorem expr_sz : Sz L (exprB C E P) := fun s h => by
  unfold exprB
  by_cases c1 : sees [isKey wFun] s.rest = true
  · rw [if_pos c1]; exact form_sz zE zP 5 wFun _ (by decide) (by decide) s h c1
  rw [if_neg c1]
  by_cases c2 : sees [isKey wLet, isKey wRec] s.rest = true
  · rw [if_pos c2]; exact form_sz zE zP 8 wLet _ (by decide) (by decide) s h (see_two c2)
  rw [if_neg c2]
  by_cases c3 : sees [isKey wLet] s.rest = true
  · rw [if_pos c3]; exact form_sz zE zP 7 wLet _ (by decide) (by decide) s h c3
  rw [if_neg c3]
  by_cases c4 : sees [isKey wIf] s.rest = true
  · rw [if_pos c4]; exact form_sz zE zP 9 wIf _ (by decide) (by decide) s h c4
  rw [if_neg c4]
  by_cases c5 : sees [isKey wRaise] s.rest = true
  · rw [if_pos c5]; exact form_sz zE zP 11 wRaise _ (by decide) (by decide) s h c5
  rw [if_neg c5]
  by_cases c6 : sees [isKey wTry] s.rest = true
  · rw [if_pos c6]; exact form_sz zE zP 12 wTry _ (by decide) (by decide) s h c6
  rw [if_neg c6]
  exact row_sz hR zE zP s h
omit hR
theorem patom_sz (s : St) (h : Sm L s.rest) : (patomM C E P s).1.length + 5 * (patomM C E P s).2.rest.length ≤ 5 * s.rest.length + 1 ∧ Vx L (patomM C E P s).1 ∧ Sm L (patomM C E P s).2.rest ∧ (sees [either begP] s.rest = true → (patomM C E P s).1.length + 5 * (patomM C E P s).2.rest.length + 1 ≤ 5 * s.rest.length) := by
  unfold patomM
  split
  · rename_i hs
    have := take_sz (C := C) (isKey wAny) h
    have h1 := this.2.2.2 hs
    refine ⟨?_, Vx.one (size_empty L), this.2.2.1, fun _ => ?_⟩ <;> (simp only [List.length_cons, List.length_nil]; omega)
  · split
    · rename_i hs
      have := take_sz (C := C) (isKind [3]) h
      have h1 := this.2.2.2 hs
      refine ⟨?_, Vx.one (size_empty L), this.2.2.1, fun _ => ?_⟩ <;> (simp only [List.length_cons, List.length_nil]; omega)
    · split
      · rename_i hs
        have := take_sz (C := C) (isKind [2]) h
        have h1 := this.2.2.2 hs
        refine ⟨?_, Vx.one this.2.1, this.2.2.1, fun _ => ?_⟩ <;> (simp only [List.length_cons, List.length_nil]; omega)
      · split
        · rename_i hs
          have h3 := parts0_sz zE zP (C := C) wLp [wPat, wRp] (by decide) s h
          have h4 := h3.2.2.2.2.2.2 hs.1
          have hc : cw [wPat, wRp] = 1 := by decide
          rw [hc] at h3 h4
          have e : rPPat = wLp :: [wPat, wRp] := rfl
          rw [← e] at h3 h4
          have h5 := head_sz h3.2.2.2.1
          refine ⟨?_, h5.2, h3.2.2.2.2.1, fun _ => ?_⟩ <;> (simp only; omega)
        · rename_i n1 n2 n3 _
          have := bind_sz (C := C) h
          refine ⟨?_, Vx.one this.2.1, this.2.2.1, fun hb => ?_⟩
          · simp only [List.length_cons, List.length_nil]; omega
          · have h1 := this.2.2.2 (by
              obtain ⟨p, hp, hs⟩ := see_beg.1 hb
              simp [begP] at hp
              rcases hp with rfl | rfl | rfl
              · right
                obtain ⟨t, r, hr⟩ := head_of hs
                rw [hr] at hs n2 n3 ⊢
                simp [sees, isKind] at hs n2 n3 ⊢
                omega
              · exact absurd hs n1
              · exact .inl hs)
            simp only [List.length_cons, List.length_nil]; omega
theorem patL_sz (k : Nat) : ∀ s, Sm L s.rest → (patL C E P k s).1.flatten.length + 5 * (patL C E P k s).2.rest.length ≤ 5 * s.rest.length ∧ (patL C E P k s).1.length ≤ s.rest.length ∧ Vx L (patL C E P k s).1.flatten ∧ Sm L (patL C E P k s).2.rest := by
  induction k with
  | zero => intro s h; exact ⟨by simp [patL], Nat.zero_le _, Vx.nil L, h⟩
  | succ k ih =>
    intro s h
    unfold patL
    split
    · rename_i hs
      have h1 := patom_sz zE zP (C := C) s h
      have h2 := h1.2.2.2 hs
      have h3 := ih _ h1.2.2.1
      refine ⟨?_, ?_, by simpa using h1.2.1.app h3.2.2.1, h3.2.2.2⟩ <;> (simp only [List.flatten_cons, List.length_append, List.length_cons]; omega)
    · exact ⟨by simp, Nat.zero_le _, Vx.nil L, h⟩
theorem pat_sz : Sz L (patB C E P) := fun s h => by
  unfold patB
  split
  · rename_i hs
    have h1 := take_sz (C := C) (isKind [2]) h
    have h2 := h1.2.2.2 hs
    have h3 := patL_sz zE zP (C := C) 1000 _ h1.2.2.1
    refine ⟨?_, Vx.mk h1.2.1 h3.2.2.1, h3.2.2.2⟩
    rw [makeN_len]
    have := h3.1
    simp only
    omega
  · have := patom_sz zE zP (C := C) s h
    exact ⟨this.1, this.2.1, this.2.2.1⟩
end
theorem ep_sz {C : Cfg} {L : Nat} (hR : Rowed C) (n : Nat) : Sz L (epM C n).1 ∧ Sz L (epM C n).2 := by
  induction n with
  | zero =>
    have : Sz L (deepM C) := fun s _ => by
      have := fail_sm (L := L) (s := s) (here C s) 73
      exact ⟨by show 0 + 5 * (s.fail _ _).rest.length ≤ _; rw [this.2]; omega, Vx.nil L, this.1⟩
    exact ⟨this, this⟩
  | succ n ih => exact ⟨expr_sz hR ih.1 ih.2, pat_sz ih.1 ih.2⟩
/-! ### The whole -/
def st0 (l : List Tok) : St := ⟨l, 0, 0⟩
def topN (C : Cfg) (l : List Tok) : List Nd := ((epM C 100).1 (st0 l)).1
def topS (C : Cfg) (l : List Tok) : St := if ((epM C 100).1 (st0 l)).2.rest = [] then ((epM C 100).1 (st0 l)).2 else ((epM C 100).1 (st0 l)).2.fail (here C ((epM C 100).1 (st0 l)).2) 70
theorem top_good (C : Cfg) (l : List Tok) : ((topS C l).e = 0 ∧ (topS C l).rest = [] ∧ topS C l = ((epM C 100).1 (st0 l)).2) ∨ (¬ (topS C l).e = 0 ∧ ((topS C l).at_ = C.fin ∨ ∃ t ∈ l, (topS C l).at_ = t.at_)) := by
  have h := (good_ep C l 100 (st0 l) (.inl ⟨rfl, [], rfl⟩)).1
  unfold topS
  generalize ((epM C 100).1 (st0 l)).2 = s at h ⊢
  by_cases hr : s.rest = []
  · rw [if_pos hr]
    rcases h with ⟨h1, _⟩ | ⟨h1, _, h2⟩
    · exact .inl ⟨h1, hr, rfl⟩
    · exact .inr ⟨h1, h2⟩
  · rw [if_neg hr]
    rcases h with ⟨h1, d, hd⟩ | ⟨_, h2, _⟩
    · right
      rw [fail_ok h1]
      refine ⟨by simp, ?_⟩
      unfold here
      cases hq : s.rest with
      | nil => exact absurd hq hr
      | cons t r => exact .inr ⟨t, by rw [hd, hq]; simp, rfl⟩
    · exact absurd h2 hr
theorem topS_sh (C : Cfg) (k : Int) (l : List Tok) : topN ⟨C.fin + k, C.fs, C.climb⟩ (l.map (shT k)) = topN C l ∧ (topS ⟨C.fin + k, C.fs, C.climb⟩ (l.map (shT k))).e = (topS C l).e ∧ (¬ (topS C l).e = 0 → (topS ⟨C.fin + k, C.fs, C.climb⟩ (l.map (shT k))).at_ = (topS C l).at_ + k) := by
  have h := sh_ep C k 100 (st0 l)
  have e : shS k (st0 l) = st0 (l.map (shT k)) := by simp [shS, st0]
  rw [e] at h
  unfold topN topS
  rw [h]
  refine ⟨rfl, ?_⟩
  generalize ((epM C 100).1 (st0 l)).2 = s
  obtain ⟨r, e, a⟩ := s
  cases r with
  | nil => 
    refine ⟨by simp [shS], ?_⟩
    simp only [shS, List.map_nil, if_true]
    intro he
    rw [if_neg he]
  | cons t r =>
    simp only [shS, List.map_cons, reduceCtorEq, if_false]
    unfold St.fail
    by_cases he : e = 0
    · subst he; simp [here, shT]
    · simp [he]
/-- An expression does not begin with an operator. -/
theorem first_op (C : Cfg) (n : Nat) {t : Tok} {r : List Tok} (ht : t.kind = 5) : ¬ ((epM C (n + 1)).1 ⟨t :: r, 0, 0⟩).2.e = 0 := by
  have hk : ∀ x, sees [isKey x] (t :: r) = false := fun x => by simp [sees, isKey, ht]
  have hk2 : ∀ x p, sees [isKey x, p] (t :: r) = false := fun x p => by simp [sees, isKey, ht]
  show ¬ (exprB C (epM C n).1 (epM C n).2 ⟨t :: r, 0, 0⟩).2.e = 0
  generalize hE : (epM C n).1 = E
  generalize hP : (epM C n).2 = P
  have kE : Sk E := hE ▸ (ep_sk n).1
  have kP : Sk P := hP ▸ (ep_sk n).2
  have ha : ∀ k, Stuck (appL C E P k ⟨t :: r, 0, 0⟩).2 := by
    have h1 : Stuck (atomM C E P ⟨t :: r, 0, 0⟩).2 := by
      unfold atomM
      simp only [hk, hk2]
      have : sees [isKind leafK] (t :: r) = false := by simp [sees, isKind, leafK, ht]
      simp [take, this, fail_ok, Stuck]
    intro k
    cases k with
    | zero => exact h1
    | succ k => unfold appL; rw [sees_nil h1]; exact h1
  have hm : Stuck (appM C E P ⟨t :: r, 0, 0⟩).2 := ha 1000
  have hrow : Stuck (rowM C E P ⟨t :: r, 0, 0⟩).2 := by
    rw [rowM_eq, rowT_sk kE kP _ _ _ hm]
    exact hm
  unfold exprB
  simp only [hk, hk2]
  exact hrow.1
theorem empty_op (C : Cfg) (n : Nat) : ¬ ((epM C (n + 1)).1 ⟨[], 0, 0⟩).2.e = 0 := by
  show ¬ (exprB C (epM C n).1 (epM C n).2 ⟨[], 0, 0⟩).2.e = 0
  generalize hE : (epM C n).1 = E
  generalize hP : (epM C n).2 = P
  have kE : Sk E := hE ▸ (ep_sk n).1
  have kP : Sk P := hP ▸ (ep_sk n).2
  have ha : ∀ k, Stuck (appL C E P k ⟨[], 0, 0⟩).2 := by
    have h1 : Stuck (atomM C E P ⟨[], 0, 0⟩).2 := by
      unfold atomM
      simp [take, sees, fail_ok, Stuck]
    intro k
    cases k with
    | zero => exact h1
    | succ k => unfold appL; rw [sees_nil h1]; exact h1
  have hm : Stuck (appM C E P ⟨[], 0, 0⟩).2 := ha 1000
  have hrow : Stuck (rowM C E P ⟨[], 0, 0⟩).2 := by
    rw [rowM_eq, rowT_sk kE kP _ _ _ hm]
    exact hm
  unfold exprB
  simp only [sees]
  exact hrow.1
theorem key_lp {t : Tok} (h : isLp t) (x : ByteArray) (l : List Tok) : sees [isKey x] (t :: l) = decide (wLp = x) := by simp [sees, isKey, h.1, h.2]
theorem key_rp {t : Tok} (h : isRp t) (x : ByteArray) (l : List Tok) : sees [isKey x] (t :: l) = decide (wRp = x) := by simp [sees, isKey, h.1, h.2]
/-- An atom in brackets. -/
theorem paren_atom (C : Cfg) (fin : Int) {lp rp : Tok} (hl : isLp lp) (hr : isRp rp) (r : List Tok) (l m : List Tok) (hm : All2 coreT l m) (h : (topS C l).e = 0) (a : Int) :
    (∃ b, atomM ⟨fin, C.fs, C.climb⟩ (epM ⟨fin, C.fs, C.climb⟩ 99).1 (epM ⟨fin, C.fs, C.climb⟩ 99).2 ⟨lp :: (m ++ rp :: r), 0, a⟩ = (topN C l, ⟨r, 0, b⟩)) ∨
    ∃ y b, atomM ⟨fin, C.fs, C.climb⟩ (epM ⟨fin, C.fs, C.climb⟩ 99).1 (epM ⟨fin, C.fs, C.climb⟩ 99).2 ⟨lp :: (m ++ rp :: r), 0, a⟩ = (y, ⟨[], 73, b⟩) := by
  obtain ⟨h1, h2, h3⟩ : (topS C l).e = 0 ∧ (topS C l).rest = [] ∧ topS C l = ((epM C 100).1 (st0 l)).2 := by
    rcases top_good C l with h4 | h4
    · exact h4
    · exact absurd h h4.1
  rw [h3] at h1 h2
  have hA : (epM C (99 + 1)).1 ⟨l, 0, 0⟩ = (topN C l, ⟨[], 0, ((epM C 100).1 (st0 l)).2.at_⟩) := by
    show (epM C 100).1 (st0 l) = _
    generalize hq : (epM C 100).1 (st0 l) = q at h1 h2 ⊢
    obtain ⟨x, ⟨tr, te, ta⟩⟩ := q
    simp only at h1 h2
    subst h1 h2
    simp [topN, hq]
  have hop : sees [isKey wLp, isKind [5]] (lp :: (m ++ rp :: r)) = false := by
    have : sees [isKind [5]] (m ++ rp :: r) = false := by
      cases hm with
      | nil => simp [sees, isKind, hr.1]
      | cons ht hs =>
        rename_i t t' l' m'
        simp only [List.cons_append, sees, isKind, Bool.and_true, List.any_cons, List.any_nil, Bool.or_false]
        rw [decide_eq_false_iff_not]
        intro h5
        refine first_op C 99 (t := t) (r := l') (ht.1.trans h5) ?_
        rw [hA]
    show (isKey wLp lp && sees [isKind [5]] (m ++ rp :: r)) = false
    rw [this, Bool.and_false]
  have hC := cut_ep C fin hr r 99 1 l m hm hA a
  generalize hE : (epM ⟨fin, C.fs, C.climb⟩ 99).1 = E at hC ⊢
  generalize hP : (epM ⟨fin, C.fs, C.climb⟩ 99).2 = P
  unfold atomM
  rw [key_lp hl, if_neg (by decide), hop, if_neg (by decide), key_lp hl, if_pos (by decide)]
  have ht1 : take ⟨fin, C.fs, C.climb⟩ (isKey wLp) ⟨lp :: (m ++ rp :: r), 0, a⟩ = (lp, ⟨m ++ rp :: r, 0, a⟩) := by
    unfold take
    rw [key_lp hl, if_pos (by decide)]
    rfl
  have hp : parts0 ⟨fin, C.fs, C.climb⟩ E P rParen ⟨lp :: (m ++ rp :: r), 0, a⟩ = ((ByteArray.empty, [(E ⟨m ++ rp :: r, 0, a⟩).1]), (take ⟨fin, C.fs, C.climb⟩ (isKey wRp) (E ⟨m ++ rp :: r, 0, a⟩).2).2) := by
    have e1 : ¬ wLp = wBind ∧ ¬ wLp = wExpr ∧ ¬ wLp = wPat ∧ ¬ wExpr = wBind ∧ ¬ wRp = wBind ∧ ¬ wRp = wExpr ∧ ¬ wRp = wPat := by decide
    unfold parts0 rParen
    simp only [partsM, e1.1, e1.2.1, e1.2.2.1, e1.2.2.2.1, e1.2.2.2.2.1, e1.2.2.2.2.2.1, e1.2.2.2.2.2.2, if_false, if_true, ht1, List.nil_append]
  rw [hp]
  rcases hC with ⟨b, hb⟩ | ⟨y, b, hb⟩
  · left
    refine ⟨b, ?_⟩
    rw [hb]
    have : take ⟨fin, C.fs, C.climb⟩ (isKey wRp) ⟨rp :: r, 0, b⟩ = (rp, ⟨r, 0, b⟩) := by
      unfold take
      rw [key_rp hr, if_pos (by decide)]
      rfl
    simp only [this, List.headD_cons]
  · right
    refine ⟨y, b, ?_⟩
    rw [hb]
    have hs : Stuck ⟨[], 73, b⟩ := ⟨by simp, rfl⟩
    simp only [take_sk _ _ hs, List.headD_cons]
/-- One in brackets ahead of another one. -/
theorem two_parens (C : Cfg) (fin : Int) {lp rp lp2 rp2 : Tok} (hl : isLp lp) (hr : isRp rp) (hl2 : isLp lp2) (hr2 : isRp rp2) (l1 m1 l2 m2 : List Tok) (hm1 : All2 coreT l1 m1) (hm2 : All2 coreT l2 m2) (h1 : (topS C l1).e = 0) (h2 : (topS C l2).e = 0) :
    ((topS ⟨fin, C.fs, C.climb⟩ (lp :: (m1 ++ rp :: lp2 :: (m2 ++ [rp2])))).e = 0 ∧ topN ⟨fin, C.fs, C.climb⟩ (lp :: (m1 ++ rp :: lp2 :: (m2 ++ [rp2]))) = makeN ⟨6, ByteArray.empty, 0, 0⟩ [topN C l1, topN C l2]) ∨
    (topS ⟨fin, C.fs, C.climb⟩ (lp :: (m1 ++ rp :: lp2 :: (m2 ++ [rp2])))).e = 73 := by
  have A1 := paren_atom C fin hl hr (lp2 :: (m2 ++ [rp2])) l1 m1 hm1 h1 0
  have A2 := fun a => paren_atom C fin hl2 hr2 [] l2 m2 hm2 h2 a
  have hK : ∀ s, Stuck s → ((exprB ⟨fin, C.fs, C.climb⟩ (epM ⟨fin, C.fs, C.climb⟩ 99).1 (epM ⟨fin, C.fs, C.climb⟩ 99).2) s).2 = s := exprB_sk (ep_sk 99).1 (ep_sk 99).2
  have kE := (ep_sk (C := ⟨fin, C.fs, C.climb⟩) 99).1
  have kP := (ep_sk (C := ⟨fin, C.fs, C.climb⟩) 99).2
  have hE : (epM ⟨fin, C.fs, C.climb⟩ 100).1 (st0 (lp :: (m1 ++ rp :: lp2 :: (m2 ++ [rp2])))) = rowM ⟨fin, C.fs, C.climb⟩ (epM ⟨fin, C.fs, C.climb⟩ 99).1 (epM ⟨fin, C.fs, C.climb⟩ 99).2 ⟨lp :: (m1 ++ rp :: lp2 :: (m2 ++ [rp2])), 0, 0⟩ := by
    show exprB _ _ _ _ = _
    unfold exprB st0
    have hk2 : sees [isKey wLet, isKey wRec] (lp :: (m1 ++ rp :: lp2 :: (m2 ++ [rp2]))) = false := by
      have := key_lp hl wLet (m1 ++ rp :: lp2 :: (m2 ++ [rp2]))
      show (isKey wLet lp && _) = false
      have h3 : isKey wLet lp = false := by simp [isKey, hl.1, hl.2]; decide
      rw [h3]; rfl
    simp only [key_lp hl, hk2]
    rfl
  generalize (epM ⟨fin, C.fs, C.climb⟩ 99).1 = E at *
  generalize (epM ⟨fin, C.fs, C.climb⟩ 99).2 = P at *
  have stuck_row : ∀ y b, (appM ⟨fin, C.fs, C.climb⟩ E P ⟨lp :: (m1 ++ rp :: lp2 :: (m2 ++ [rp2])), 0, 0⟩) = (y, ⟨[], 73, b⟩) → (topS ⟨fin, C.fs, C.climb⟩ (lp :: (m1 ++ rp :: lp2 :: (m2 ++ [rp2])))).e = 73 := by
    intro y b hy
    have hs : Stuck ⟨[], 73, b⟩ := ⟨by simp, rfl⟩
    unfold topS
    rw [hE, rowM_eq, hy, rowT_sk kE kP _ _ _ hs]
    rfl
  have happ : ∀ s, appM ⟨fin, C.fs, C.climb⟩ E P s = (appN (appL ⟨fin, C.fs, C.climb⟩ E P (998 + 1 + 1) s).1, (appL ⟨fin, C.fs, C.climb⟩ E P (998 + 1 + 1) s).2) := fun s => rfl
  have hbeg : sees [either begA] (lp2 :: (m2 ++ [rp2])) = true := see_beg.2 ⟨isKey wLp, by simp [begA], by rw [key_lp hl2]; rfl⟩
  rcases A1 with ⟨b, hb⟩ | ⟨y, b, hb⟩
  · rcases A2 b with ⟨c, hc⟩ | ⟨y, c, hc⟩
    · left
      have hL : appM ⟨fin, C.fs, C.climb⟩ E P ⟨lp :: (m1 ++ rp :: lp2 :: (m2 ++ [rp2])), 0, 0⟩ = (appN [topN C l1, topN C l2], ⟨[], 0, c⟩) := by
        rw [happ]
        unfold appL
        rw [hb]
        simp only [hbeg, if_true]
        unfold appL
        rw [hc]
        simp only [sees, Bool.false_eq_true, if_false]
      have hR : rowM ⟨fin, C.fs, C.climb⟩ E P ⟨lp :: (m1 ++ rp :: lp2 :: (m2 ++ [rp2])), 0, 0⟩ = (appN [topN C l1, topN C l2], ⟨[], 0, c⟩) := by
        rw [rowM_eq, hL]
        have ho : ∀ k, opsL ⟨fin, C.fs, C.climb⟩ E P (k + 1) ⟨[], 0, c⟩ = (([], []), ⟨[], 0, c⟩) := fun k => by
          unfold opsL
          simp [sees]
        unfold rowT
        rw [ho 999]
        rfl
      refine ⟨?_, ?_⟩
      · unfold topS
        rw [hE, hR]
        rfl
      · unfold topN
        rw [hE, hR]
        show appN [topN C l1, topN C l2] = makeN ⟨6, ByteArray.empty, 0, 0⟩ [topN C l1, topN C l2]
        simp [appN, makeN, nApp]
    · right
      refine stuck_row (appN [topN C l1, y]) c ?_
      rw [happ]
      unfold appL
      rw [hb]
      simp only [hbeg, if_true]
      unfold appL
      rw [hc]
      simp only [sees, Bool.false_eq_true, if_false]
  · right
    refine stuck_row (appN [y]) b ?_
    rw [happ]
    unfold appL
    rw [hb]
    simp only [sees, Bool.false_eq_true, if_false]
end Go.Proofs.ParMath
