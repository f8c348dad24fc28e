/- Texts of this seat, one behind the other: ParA. -/
import Derived.Test.YtggjckalmlploaaGreatDoorKn03
import Derived.Test.YtggjckalmlploaaGreatDoorKn06
/- The parser, as mathematics: what it reads, and two of them side by side. -/
namespace Go.Proofs.ParMath
open Go.Proofs.LexMath Go.Proofs.FixMath Go.Proofs.YtggjckalmlploaaGreatDoor

/-- What a parser holds: the tokens that are left, the first error, its place. -/
structure St where
  rest : List Tok
  e : Int
  at_ : Int
  deriving DecidableEq
/-- Where it all ends, the fixities, how operators in a row bind. -/
structure Cfg where
  fin : Int
  fs : List Fx
  climb : List Fx → List ByteArray → List Int × Int
abbrev Test := Tok → Bool
abbrev Par := St → List Nd × St
def tok0 : Tok := ⟨0, ByteArray.empty, 0, 0⟩
def St.fail (s : St) (x c : Int) : St := if s.e = 0 then ⟨[], c, x⟩ else ⟨[], s.e, s.at_⟩
def isKey (x : ByteArray) (t : Tok) : Bool := decide (t.kind = 6) && decide (t.text = x)
def isKind (ks : List Int) (t : Tok) : Bool := ks.any fun k => decide (t.kind = k)
def either (ps : List Test) (t : Tok) : Bool := ps.any fun p => p t
def sees : List Test → List Tok → Bool
  | [], _ => true
  | _ :: _, [] => false
  | p :: ps, t :: l => p t && sees ps l
def wFun : ByteArray := ⟨#[102, 117, 110]⟩
def wLet : ByteArray := ⟨#[108, 101, 116]⟩
def wRec : ByteArray := ⟨#[114, 101, 99]⟩
def wIf : ByteArray := ⟨#[105, 102]⟩
def wThen : ByteArray := ⟨#[116, 104, 101, 110]⟩
def wElse : ByteArray := ⟨#[101, 108, 115, 101]⟩
def wRaise : ByteArray := ⟨#[114, 97, 105, 115, 101]⟩
def wTry : ByteArray := ⟨#[116, 114, 121]⟩
def wWith : ByteArray := ⟨#[119, 105, 116, 104]⟩
def wIn : ByteArray := ⟨#[105, 110]⟩
def wMatch : ByteArray := ⟨#[109, 97, 116, 99, 104]⟩
def wEnd : ByteArray := ⟨#[101, 110, 100]⟩
def wArrow : ByteArray := ⟨#[45, 62]⟩
def wEq : ByteArray := ⟨#[61]⟩
def wLp : ByteArray := ⟨#[40]⟩
def wRp : ByteArray := ⟨#[41]⟩
def wBar : ByteArray := ⟨#[124]⟩
def wAny : ByteArray := ⟨#[95]⟩
def wBind : ByteArray := ⟨#[98, 105, 110, 100]⟩
def wExpr : ByteArray := ⟨#[101, 120, 112, 114]⟩
def wPat : ByteArray := ⟨#[112, 97, 116]⟩
def rFun : List ByteArray := [wFun, wBind, wArrow, wExpr]
def rLet : List ByteArray := [wLet, wBind, wEq, wExpr, wIn, wExpr]
def rRec : List ByteArray := [wLet, wRec, wBind, wEq, wExpr, wIn, wExpr]
def rIf : List ByteArray := [wIf, wExpr, wThen, wExpr, wElse, wExpr]
def rRaise : List ByteArray := [wRaise, wExpr]
def rTry : List ByteArray := [wTry, wExpr, wWith, wBind, wArrow, wExpr]
def rParen : List ByteArray := [wLp, wExpr, wRp]
def rMatch : List ByteArray := [wMatch, wExpr, wWith, wPat, wArrow, wExpr]
def rArm : List ByteArray := [wBar, wPat, wArrow, wExpr]
def rPPat : List ByteArray := [wLp, wPat, wRp]
section
variable (C : Cfg)
def here (s : St) : Int := match s.rest with | [] => C.fin | t :: _ => t.at_
def take (p : Test) (s : St) : Tok × St :=
  if sees [p] s.rest = true then (s.rest.headD tok0, ⟨s.rest.tail, s.e, s.at_⟩) else (tok0, s.fail (here C s) 70)
def bindM (s : St) : ByteArray × St :=
  if sees [isKey wLp] s.rest = true then
    ((take C (isKind [5]) (take C (isKey wLp) s).2).1.text, (take C (isKey wRp) (take C (isKind [5]) (take C (isKey wLp) s).2).2).2)
  else ((take C (isKind [1]) s).1.text, (take C (isKind [1]) s).2)
def partsM (E P : Par) : List ByteArray → ByteArray → List (List Nd) → St → (ByteArray × List (List Nd)) × St
  | [], nm, kids, s => ((nm, kids), s)
  | x :: ws, nm, kids, s =>
    if x = wBind then partsM E P ws (bindM C s).1 kids (bindM C s).2
    else if x = wExpr then partsM E P ws nm (kids ++ [(E s).1]) (E s).2
    else if x = wPat then partsM E P ws nm (kids ++ [(P s).1]) (P s).2
    else partsM E P ws nm kids (take C (isKey x) s).2
def parts0 (E P : Par) (ws : List ByteArray) (s : St) : (ByteArray × List (List Nd)) × St := partsM C E P ws ByteArray.empty [] s
def formM (E P : Par) (k : Int) (ws : List ByteArray) (s : St) : List Nd × St :=
  (makeN ⟨k, (parts0 C E P ws s).1.1, 0, 0⟩ (parts0 C E P ws s).1.2, (parts0 C E P ws s).2)
def armsM (E P : Par) : Nat → List (List Nd) → St → List (List Nd) × St
  | 0, kids, s => (kids, s)
  | k + 1, kids, s => if sees [isKey wBar] s.rest = true then armsM E P k (kids ++ (parts0 C E P rArm s).1.2) (parts0 C E P rArm s).2 else (kids, s)
def arms0 (E P : Par) (s : St) : List (List Nd) × St := armsM C E P 1000 (parts0 C E P rMatch s).1.2 (parts0 C E P rMatch s).2
def matchM (E P : Par) (s : St) : List Nd × St := (makeN ⟨10, ByteArray.empty, 0, 0⟩ (arms0 C E P s).1, (take C (isKey wEnd) (arms0 C E P s).2).2)
def leafK : List Int := [3, 4, 2, 1]
def leafN (t : Tok) : List Nd :=
  if t.kind = 3 then [⟨1, ByteArray.empty, t.num, 0⟩] else if t.kind = 4 then [⟨2, t.text, 0, 0⟩] else if t.kind = 2 then [⟨4, t.text, 0, 0⟩] else [⟨3, t.text, 0, 0⟩]
def atomM (E P : Par) (s : St) : List Nd × St :=
  if sees [isKey wMatch] s.rest = true then matchM C E P s
  else if sees [isKey wLp, isKind [5]] s.rest = true then ([⟨3, (bindM C s).1, 0, 0⟩], (bindM C s).2)
  else if sees [isKey wLp] s.rest = true then ((parts0 C E P rParen s).1.2.headD [], (parts0 C E P rParen s).2)
  else (leafN (take C (isKind leafK) s).1, (take C (isKind leafK) s).2)
def begA : List Test := [isKind leafK, isKey wLp, isKey wMatch]
def appL (E P : Par) : Nat → St → List (List Nd) × St
  | 0, s => ([(atomM C E P s).1], (atomM C E P s).2)
  | k + 1, s => if sees [either begA] (atomM C E P s).2.rest = true then ((atomM C E P s).1 :: (appL E P k (atomM C E P s).2).1, (appL E P k (atomM C E P s).2).2) else ([(atomM C E P s).1], (atomM C E P s).2)
def nApp : Nd := ⟨6, ByteArray.empty, 0, 2⟩
def appN (zs : List (List Nd)) : List Nd := List.replicate (zs.length - 1) nApp ++ zs.flatten
def appM (E P : Par) (s : St) : List Nd × St := (appN (appL C E P 1000 s).1, (appL C E P 1000 s).2)
/-- Operators and their right parts. -/
def opsL (E P : Par) : Nat → St → (List Tok × List (List Nd)) × St
  | 0, s => (([], []), s)
  | k + 1, s => if sees [isKind [5]] s.rest = true then
      ((((take C (isKind [5]) s).1 :: (opsL E P k (appM C E P (take C (isKind [5]) s).2).2).1.1), ((appM C E P (take C (isKind [5]) s).2).1 :: (opsL E P k (appM C E P (take C (isKind [5]) s).2).2).1.2)), (opsL E P k (appM C E P (take C (isKind [5]) s).2).2).2)
    else (([], []), s)
def badOp (ops : List Tok) : Option Tok := ops.find? fun o => (find C.fs o.text).isNone
def needF (ops : List Tok) : List Fx := ops.foldl (fun acc o => match find C.fs o.text with | some f => if (find acc o.text).isSome = true then acc else acc ++ [f] | none => acc) []
def structM (first : Int) (ops : List Tok) (s : St) : List Int × St :=
  match badOp C ops with
  | some o => ([], s.fail o.at_ 71)
  | none => ((C.climb (needF C ops) (ops.map Tok.text)).1, if (C.climb (needF C ops) (ops.map Tok.text)).2 = 0 then s else s.fail first 72)
def opN (ops : List Tok) (operands : List (List Nd)) (k : Int) : List Nd :=
  if k < 0 then operands.getD (-1 - k).toNat [] else [nApp, nApp, ⟨3, (ops.getD k.toNat tok0).text, 0, 0⟩]
def rowM (E P : Par) (s : St) : List Nd × St :=
  if (opsL C E P 1000 (appM C E P s).2).1.1 = [] then ((appM C E P s).1, (opsL C E P 1000 (appM C E P s).2).2)
  else
    ((structM C (here C s) (opsL C E P 1000 (appM C E P s).2).1.1 (opsL C E P 1000 (appM C E P s).2).2).1.flatMap (opN (opsL C E P 1000 (appM C E P s).2).1.1 ((appM C E P s).1 :: (opsL C E P 1000 (appM C E P s).2).1.2)),
      (structM C (here C s) (opsL C E P 1000 (appM C E P s).2).1.1 (opsL C E P 1000 (appM C E P s).2).2).2)
def exprB (E P : Par) (s : St) : List Nd × St :=
  if sees [isKey wFun] s.rest = true then formM C E P 5 rFun s
  else if sees [isKey wLet, isKey wRec] s.rest = true then formM C E P 8 rRec s
  else if sees [isKey wLet] s.rest = true then formM C E P 7 rLet s
  else if sees [isKey wIf] s.rest = true then formM C E P 9 rIf s
  else if sees [isKey wRaise] s.rest = true then formM C E P 11 rRaise s
  else if sees [isKey wTry] s.rest = true then formM C E P 12 rTry s
  else rowM C E P s
def patomM (E P : Par) (s : St) : List Nd × St :=
  if sees [isKey wAny] s.rest = true then ([⟨21, ByteArray.empty, 0, 0⟩], (take C (isKey wAny) s).2)
  else if sees [isKind [3]] s.rest = true then ([⟨23, ByteArray.empty, (take C (isKind [3]) s).1.num, 0⟩], (take C (isKind [3]) s).2)
  else if sees [isKind [2]] s.rest = true then ([⟨24, (take C (isKind [2]) s).1.text, 0, 0⟩], (take C (isKind [2]) s).2)
  else if sees [isKey wLp] s.rest = true ∧ ¬ sees [isKey wLp, isKind [5]] s.rest = true then ((parts0 C E P rPPat s).1.2.headD [], (parts0 C E P rPPat s).2)
  else ([⟨22, (bindM C s).1, 0, 0⟩], (bindM C s).2)
def begP : List Test := [isKind [3, 2, 1], isKey wAny, isKey wLp]
def patL (E P : Par) : Nat → St → List (List Nd) × St
  | 0, s => ([], s)
  | k + 1, s => if sees [either begP] s.rest = true then ((patomM C E P s).1 :: (patL E P k (patomM C E P s).2).1, (patL E P k (patomM C E P s).2).2) else ([], s)
def patB (E P : Par) (s : St) : List Nd × St :=
  if sees [isKind [2]] s.rest = true then
    (makeN ⟨24, (take C (isKind [2]) s).1.text, 0, 0⟩ (patL C E P 1000 (take C (isKind [2]) s).2).1, (patL C E P 1000 (take C (isKind [2]) s).2).2)
  else patomM C E P s
def deepM (s : St) : List Nd × St := ([], s.fail (here C s) 73)
/-- An expr, a pat, with so many more inside. -/
def epM : Nat → Par × Par
  | 0 => (deepM C, deepM C)
  | n + 1 => (exprB C (epM n).1 (epM n).2, patB C (epM n).1 (epM n).2)
end
/-! ### Once it went wrong nothing changes -/
def Stuck (s : St) : Prop := ¬ s.e = 0 ∧ s.rest = []
def Sk {α : Type} (F : St → α × St) : Prop := ∀ s, Stuck s → (F s).2 = s
theorem fail_stuck {s : St} (h : Stuck s) (x c : Int) : s.fail x c = s := by
  obtain ⟨r, e, a⟩ := s
  obtain ⟨h1, h2⟩ := h
  simp only at h1 h2
  subst h2
  simp [St.fail, h1]
theorem sees_nil {p : Test} {ps : List Test} {s : St} (h : Stuck s) : sees (p :: ps) s.rest = false := by rw [h.2]; rfl
section
variable {C : Cfg} {E P : Par}
theorem take_sk (p : Test) : Sk (take C p) := fun s h => by
  unfold take
  rw [sees_nil h]
  exact fail_stuck h _ _
theorem bind_sk : Sk (bindM C) := fun s h => by
  unfold bindM
  rw [sees_nil h]
  exact take_sk _ s h
theorem partsM_sk (hE : Sk E) (hP : Sk P) : ∀ (ws : List ByteArray) (nm : ByteArray) (kids : List (List Nd)), Sk (partsM C E P ws nm kids) := by
  intro ws
  induction ws with
  | nil => intro nm kids s _; rfl
  | cons x ws ih =>
    intro nm kids s h
    unfold partsM
    have h1 := bind_sk (C := C) s h
    have h2 := take_sk (C := C) (isKey x) s h
    split
    · rw [ih _ _ _ (by rw [h1]; exact h), h1]
    · split
      · rw [ih _ _ _ (by rw [hE s h]; exact h), hE s h]
      · split
        · rw [ih _ _ _ (by rw [hP s h]; exact h), hP s h]
        · rw [ih _ _ _ (by rw [h2]; exact h), h2]
theorem parts0_sk (hE : Sk E) (hP : Sk P) (ws : List ByteArray) : Sk (parts0 C E P ws) := partsM_sk hE hP ws _ _
theorem formM_sk (hE : Sk E) (hP : Sk P) (k : Int) (ws : List ByteArray) : Sk (formM C E P k ws) := fun s h => parts0_sk hE hP ws s h
theorem armsM_sk (_hE : Sk E) (_hP : Sk P) : ∀ (k : Nat) (kids : List (List Nd)), Sk (armsM C E P k kids) := by
  intro k kids s h
  cases k with
  | zero => rfl
  | succ k => unfold armsM; rw [sees_nil h]; rfl
theorem arms0_sk (hE : Sk E) (hP : Sk P) : Sk (arms0 C E P) := fun s h => by
  have h1 := parts0_sk (C := C) hE hP rMatch s h
  unfold arms0
  rw [armsM_sk hE hP _ _ _ (by rw [h1]; exact h), h1]
theorem matchM_sk (hE : Sk E) (hP : Sk P) : Sk (matchM C E P) := fun s h => by
  unfold matchM
  have h1 := arms0_sk (C := C) hE hP s h
  simp only [h1]
  exact take_sk _ s h
theorem atomM_sk (_hE : Sk E) (_hP : Sk P) : Sk (atomM C E P) := fun s h => by
  unfold atomM
  rw [sees_nil h, sees_nil h, sees_nil h]
  exact take_sk _ s h
theorem appL_sk (hE : Sk E) (hP : Sk P) (k : Nat) : Sk (appL C E P k) := fun s h => by
  have h1 := atomM_sk (C := C) hE hP s h
  cases k with
  | zero => exact h1
  | succ k => unfold appL; rw [h1, sees_nil h]; rfl
theorem appM_sk (hE : Sk E) (hP : Sk P) : Sk (appM C E P) := fun s h => appL_sk hE hP _ s h
theorem opsL_sk (_hE : Sk E) (_hP : Sk P) (k : Nat) : Sk (opsL C E P k) := fun s h => by
  cases k with
  | zero => rfl
  | succ k => unfold opsL; rw [sees_nil h]; rfl
theorem structM_sk (x : Int) (ops : List Tok) : Sk (structM C x ops) := fun s h => by
  unfold structM
  split
  · exact fail_stuck h _ _
  · simp only
    split
    · rfl
    · exact fail_stuck h _ _
theorem rowM_sk (hE : Sk E) (hP : Sk P) : Sk (rowM C E P) := fun s h => by
  have h1 := appM_sk (C := C) hE hP s h
  have h2 := opsL_sk (C := C) hE hP 1000 s h
  unfold rowM
  rw [h1]
  split
  · exact h2
  · simp only [h2]
    exact structM_sk _ _ s h
theorem exprB_sk (hE : Sk E) (hP : Sk P) : Sk (exprB C E P) := fun s h => by
  unfold exprB
  rw [sees_nil h, sees_nil h, sees_nil h, sees_nil h, sees_nil h, sees_nil h]
  exact rowM_sk hE hP s h
theorem patomM_sk : Sk (patomM C E P) := fun s h => by
  unfold patomM
  rw [sees_nil h, sees_nil h, sees_nil h, sees_nil h]
  exact bind_sk s h
theorem patL_sk (k : Nat) : Sk (patL C E P k) := fun s h => by
  cases k with
  | zero => rfl
  | succ k => unfold patL; rw [sees_nil h]; rfl
theorem patB_sk : Sk (patB C E P) := fun s h => by
  unfold patB
  rw [sees_nil h]
  exact patomM_sk s h
theorem deepM_sk : Sk (deepM C) := fun _ h => fail_stuck h _ _
theorem ep_sk (n : Nat) : Sk (epM C n).1 ∧ Sk (epM C n).2 := by
  induction n with
  | zero => exact ⟨deepM_sk, deepM_sk⟩
  | succ n ih => exact ⟨exprB_sk ih.1 ih.2, patB_sk⟩
end
/-! ### Two parsers side by side -/
def coreT (t t' : Tok) : Prop := t.kind = t'.kind ∧ t.text = t'.text ∧ t.num = t'.num
def Core (p : Test) : Prop := ∀ t t', coreT t t' → p t = p t'
def NoRp (p : Test) : Prop := ∀ t : Tok, t.kind = 6 → t.text = wRp → p t = false
theorem core_key (x : ByteArray) : Core (isKey x) := fun t t' h => by unfold isKey; rw [h.1, h.2.1]
theorem core_kind (ks : List Int) : Core (isKind ks) := fun t t' h => by unfold isKind; rw [h.1]
theorem any_congr {α : Type} {f g : α → Bool} {l : List α} (h : ∀ a ∈ l, f a = g a) : l.any f = l.any g := by
  induction l with
  | nil => rfl
  | cons a l ih => rw [List.any_cons, List.any_cons, h a (by simp), ih fun b hb => h b (by simp [hb])]
theorem core_either {ps : List Test} (h : ∀ p ∈ ps, Core p) : Core (either ps) := fun t t' e => any_congr fun p hp => h p hp t t' e
theorem norp_key {x : ByteArray} (h : ¬ wRp = x) : NoRp (isKey x) := fun t _ h2 => by unfold isKey; rw [h2]; simp [h]
theorem norp_kind {ks : List Int} (h : ¬ 6 ∈ ks) : NoRp (isKind ks) := fun t h1 _ => by
  unfold isKind
  rw [List.any_eq_false]
  intro k hk
  rw [h1]
  simp
  rintro rfl
  exact h hk
theorem norp_either {ps : List Test} (h : ∀ p ∈ ps, NoRp p) : NoRp (either ps) := fun t h1 h2 => by
  unfold either
  rw [List.any_eq_false]
  intro p hp
  rw [h p hp t h1 h2]
  simp
/-- Tests that ask ahead: none of them takes what closes. -/
def Ahead (ps : List Test) : Prop := ∀ p ∈ ps, Core p ∧ NoRp p
def Dd (b : Prop) (s s' : St) : Prop := b ∧ (Stuck s ∨ Stuck s' ∧ s'.e = 73)
theorem Dd.next {b : Prop} {s s' t t' : St} (h : Dd b s s') (h1 : Stuck s → t = s) (h2 : Stuck s' → t' = s') : Dd b t t' := by
  obtain ⟨hb, h | ⟨h, e⟩⟩ := h
  · exact ⟨hb, .inl (by rw [h1 h]; exact h)⟩
  · exact ⟨hb, .inr (by rw [h2 h]; exact ⟨h, e⟩)⟩
def Out (b : Prop) (R : St → St → Prop) {α β : Type} (V : α → β → Prop) (x : α × St) (y : β × St) : Prop := (V x.1 y.1 ∧ R x.2 y.2) ∨ Dd b x.2 y.2
def tokR (PR : Int → Int → Prop) (t t' : Tok) : Prop := coreT t t' ∧ PR t.at_ t'.at_
structure Rels (C C' : Cfg) (b : Prop) (R : St → St → Prop) (PR : Int → Int → Prop) : Prop where
  fs : C'.fs = C.fs
  climb : C'.climb = C.climb
  see : ∀ s s' ps, R s s' → Ahead ps → sees ps s'.rest = sees ps s.rest
  tk : ∀ s s' p, R s s' → Core p → (sees [p] s'.rest = sees [p] s.rest ∧ (sees [p] s.rest = true → tokR PR (s.rest.headD tok0) (s'.rest.headD tok0) ∧ R ⟨s.rest.tail, s.e, s.at_⟩ ⟨s'.rest.tail, s'.e, s'.at_⟩)) ∨ Dd b (take C p s).2 (take C' p s').2
  here : ∀ s s', R s s' → PR (here C s) (here C' s')
  fail : ∀ s s' x x' c, ¬ c = 0 → R s s' → PR x x' → R (s.fail x c) (s'.fail x' c) ∨ Dd b (s.fail x c) (s'.fail x' c)
section
variable {C C' : Cfg} {b : Prop} {R : St → St → Prop} {PR : Int → Int → Prop}
theorem Out.seq {α β α' β' : Type} {V : α → α' → Prop} {V2 : β → β' → Prop} {x : α × St} {y : α' × St} (G : α → St → β × St) (G' : α' → St → β' × St) (h : Out b R V x y)
    (hG : ∀ a a' s s', V a a' → R s s' → Out b R V2 (G a s) (G' a' s')) (k : ∀ a, Sk (G a)) (k' : ∀ a, Sk (G' a)) : Out b R V2 (G x.1 x.2) (G' y.1 y.2) := by
  rcases h with ⟨h1, h2⟩ | h
  · exact hG _ _ _ _ h1 h2
  · exact .inr (h.next (k _ _) (k' _ _))
theorem Out.map {α β α' β' : Type} {V : α → α' → Prop} {V2 : β → β' → Prop} {x : α × St} {y : α' × St} (h : Out b R V x y) (f : α → β) (f' : α' → β') (hf : ∀ a a', V a a' → V2 (f a) (f' a')) : Out b R V2 (f x.1, x.2) (f' y.1, y.2) := by
  rcases h with ⟨h1, h2⟩ | h
  · exact .inl ⟨hf _ _ h1, h2⟩
  · exact .inr h
variable (H : Rels C C' b R PR)
include H
theorem sim_take {s s' : St} (h : R s s') (p : Test) (hp : Core p) : Out b R coreT (take C p s) (take C' p s') := by
  rcases H.tk s s' p h hp with ⟨e, h2⟩ | h2
  · unfold take
    rw [e]
    split
    · rename_i hs
      exact .inl ⟨(h2 hs).1.1, (h2 hs).2⟩
    · rcases H.fail s s' _ _ 70 (by decide) h (H.here s s' h) with h3 | h3
      · exact .inl ⟨⟨rfl, rfl, rfl⟩, h3⟩
      · exact .inr h3
  · exact .inr h2
/-- The same where it is seen. -/
theorem sim_took {s s' : St} (h : R s s') (p : Test) (hp : Core p) (hs : sees [p] s.rest = true) : Out b R (tokR PR) (take C p s) (take C' p s') := by
  rcases H.tk s s' p h hp with ⟨e, h2⟩ | h2
  · unfold take
    rw [e, if_pos hs, if_pos hs]
    exact .inl (h2 hs)
  · exact .inr h2
theorem sim_bind {s s' : St} (h : R s s') : Out b R Eq (bindM C s) (bindM C' s') := by
  unfold bindM
  rw [H.see s s' [isKey wLp] h (by intro p hp; simp at hp; subst hp; exact ⟨core_key _, norp_key (by decide)⟩)]
  split
  · refine Out.seq (fun _ s => ((take C (isKind [5]) s).1.text, (take C (isKey wRp) (take C (isKind [5]) s).2).2)) (fun _ s => ((take C' (isKind [5]) s).1.text, (take C' (isKey wRp) (take C' (isKind [5]) s).2).2)) (sim_take H h _ (core_key _)) ?_ ?_ ?_
    · intro a a' s s' _ h
      refine Out.seq (fun t s => (t.text, (take C (isKey wRp) s).2)) (fun t s => (t.text, (take C' (isKey wRp) s).2)) (sim_take H h _ (core_kind _)) ?_ ?_ ?_
      · intro t t' s s' ht h
        exact (sim_take H h _ (core_key wRp)).map (fun _ => t.text) (fun _ => t'.text) fun _ _ _ => ht.2.1
      · intro a s h; exact take_sk _ s h
      · intro a s h; exact take_sk _ s h
    · intro a s h; show (take C _ _).2 = s; rw [take_sk (isKind [5]) s h, take_sk _ s h]
    · intro a s h; show (take C' _ _).2 = s; rw [take_sk (isKind [5]) s h, take_sk _ s h]
  · exact (sim_take H h _ (core_kind [1])).map Tok.text Tok.text fun _ _ ht => ht.2.1
variable {E P E' P' : Par} (hE : ∀ s s', R s s' → Out b R Eq (E s) (E' s')) (hP : ∀ s s', R s s' → Out b R Eq (P s) (P' s')) (kE : Sk E) (kP : Sk P) (kE' : Sk E') (kP' : Sk P')
include hE hP kE kP kE' kP'
theorem sim_partsM : ∀ (ws : List ByteArray) (nm : ByteArray) (kids : List (List Nd)) (s s' : St), R s s' → Out b R Eq (partsM C E P ws nm kids s) (partsM C' E' P' ws nm kids s') := by
  intro ws
  induction ws with
  | nil => intro nm kids s s' h; exact .inl ⟨rfl, h⟩
  | cons x ws ih =>
    intro nm kids s s' h
    unfold partsM
    split
    · refine Out.seq (fun a s => partsM C E P ws a kids s) (fun a s => partsM C' E' P' ws a kids s) (sim_bind H h) ?_ (fun a => partsM_sk kE kP ws _ _) (fun a => partsM_sk kE' kP' ws _ _)
      rintro a _ s s' rfl h; exact ih _ _ _ _ h
    · split
      · refine Out.seq (fun a s => partsM C E P ws nm (kids ++ [a]) s) (fun a s => partsM C' E' P' ws nm (kids ++ [a]) s) (hE _ _ h) ?_ (fun a => partsM_sk kE kP ws _ _) (fun a => partsM_sk kE' kP' ws _ _)
        rintro a _ s s' rfl h; exact ih _ _ _ _ h
      · split
        · refine Out.seq (fun a s => partsM C E P ws nm (kids ++ [a]) s) (fun a s => partsM C' E' P' ws nm (kids ++ [a]) s) (hP _ _ h) ?_ (fun a => partsM_sk kE kP ws _ _) (fun a => partsM_sk kE' kP' ws _ _)
          rintro a _ s s' rfl h; exact ih _ _ _ _ h
        · refine Out.seq (fun _ s => partsM C E P ws nm kids s) (fun _ s => partsM C' E' P' ws nm kids s) (sim_take H h _ (core_key x)) ?_ (fun a => partsM_sk kE kP ws _ _) (fun a => partsM_sk kE' kP' ws _ _)
          rintro a a' s s' _ h; exact ih _ _ _ _ h
theorem sim_parts0 (ws : List ByteArray) (s s' : St) (h : R s s') : Out b R Eq (parts0 C E P ws s) (parts0 C' E' P' ws s') := sim_partsM H hE hP kE kP kE' kP' ws _ _ s s' h
theorem sim_form (k : Int) (ws : List ByteArray) (s s' : St) (h : R s s') : Out b R Eq (formM C E P k ws s) (formM C' E' P' k ws s') :=
  (sim_parts0 H hE hP kE kP kE' kP' ws s s' h).map (fun a => makeN ⟨k, a.1, 0, 0⟩ a.2) (fun a => makeN ⟨k, a.1, 0, 0⟩ a.2) (by rintro a _ rfl; rfl)
theorem sim_armsM (k : Nat) : ∀ (kids : List (List Nd)) (s s' : St), R s s' → Out b R Eq (armsM C E P k kids s) (armsM C' E' P' k kids s') := by
  induction k with
  | zero => intro kids s s' h; exact .inl ⟨rfl, h⟩
  | succ k ih =>
    intro kids s s' h
    unfold armsM
    rw [H.see s s' [isKey wBar] h (by intro p hp; simp at hp; subst hp; exact ⟨core_key _, norp_key (by decide)⟩)]
    split
    · refine Out.seq (fun a s => armsM C E P k (kids ++ a.2) s) (fun a s => armsM C' E' P' k (kids ++ a.2) s) (sim_parts0 H hE hP kE kP kE' kP' rArm s s' h) ?_ (fun a => armsM_sk kE kP k _) (fun a => armsM_sk kE' kP' k _)
      rintro a _ s s' rfl h; exact ih _ _ _ h
    · exact .inl ⟨rfl, h⟩
theorem sim_arms0 (s s' : St) (h : R s s') : Out b R Eq (arms0 C E P s) (arms0 C' E' P' s') := by
  unfold arms0
  suffices hk : ∀ k, k = 1000 → Out b R Eq (armsM C E P k (parts0 C E P rMatch s).1.2 (parts0 C E P rMatch s).2) (armsM C' E' P' k (parts0 C' E' P' rMatch s').1.2 (parts0 C' E' P' rMatch s').2) from hk 1000 rfl
  intro k _
  refine Out.seq (fun a s => armsM C E P k a.2 s) (fun a s => armsM C' E' P' k a.2 s) (sim_parts0 H hE hP kE kP kE' kP' rMatch s s' h) ?_ (fun a => armsM_sk kE kP _ _) (fun a => armsM_sk kE' kP' _ _)
  rintro a _ s s' rfl h; exact sim_armsM H hE hP kE kP kE' kP' _ _ _ _ h
theorem sim_match (s s' : St) (h : R s s') : Out b R Eq (matchM C E P s) (matchM C' E' P' s') := by
  unfold matchM
  refine Out.seq (fun a s => (makeN ⟨10, ByteArray.empty, 0, 0⟩ a, (take C (isKey wEnd) s).2)) (fun a s => (makeN ⟨10, ByteArray.empty, 0, 0⟩ a, (take C' (isKey wEnd) s).2)) (sim_arms0 H hE hP kE kP kE' kP' s s' h) ?_ (fun a => take_sk _) (fun a => take_sk _)
  rintro a _ s s' rfl h
  exact (sim_take H h _ (core_key wEnd)).map (fun _ => makeN ⟨10, ByteArray.empty, 0, 0⟩ a) (fun _ => makeN ⟨10, ByteArray.empty, 0, 0⟩ a) fun _ _ _ => rfl
omit H hE hP kE kP kE' kP' in
theorem ahead_one {p : Test} (h : Core p ∧ NoRp p) : Ahead [p] := fun q hq => by simp at hq; subst hq; exact h
omit H hE hP kE kP kE' kP' in
theorem ahead_two {p q : Test} (h : Core p ∧ NoRp p) (h' : Core q ∧ NoRp q) : Ahead [p, q] := fun r hr => by
  simp at hr
  rcases hr with rfl | rfl
  · exact h
  · exact h'
omit H hE hP kE kP kE' kP' in
theorem cn_key {x : ByteArray} (h : ¬ wRp = x) : Core (isKey x) ∧ NoRp (isKey x) := ⟨core_key x, norp_key h⟩
omit H hE hP kE kP kE' kP' in
theorem cn_kind {ks : List Int} (h : ¬ 6 ∈ ks) : Core (isKind ks) ∧ NoRp (isKind ks) := ⟨core_kind ks, norp_kind h⟩
omit H hE hP kE kP kE' kP' in
theorem leaf_core {t t' : Tok} (h : coreT t t') : leafN t = leafN t' := by unfold leafN; rw [h.1, h.2.1, h.2.2]
end
inductive All2 {α β : Type} (S : α → β → Prop) : List α → List β → Prop
  | nil : All2 S [] []
  | cons {a b x y} : S a b → All2 S x y → All2 S (a :: x) (b :: y)
theorem all2_nil {α β : Type} {S : α → β → Prop} {x : List α} {y : List β} (h : All2 S x y) : x = [] ↔ y = [] := by cases h <;> simp
section
variable {C C' : Cfg} {b : Prop} {R : St → St → Prop} {PR : Int → Int → Prop} (H : Rels C C' b R PR)
variable {E P E' P' : Par} (hE : ∀ s s', R s s' → Out b R Eq (E s) (E' s')) (hP : ∀ s s', R s s' → Out b R Eq (P s) (P' s')) (kE : Sk E) (kP : Sk P) (kE' : Sk E') (kP' : Sk P')
include H hE hP kE kP kE' kP'
theorem sim_atom (s s' : St) (h : R s s') : Out b R Eq (atomM C E P s) (atomM C' E' P' s') := by
  unfold atomM
  rw [H.see s s' [isKey wMatch] h (ahead_one (cn_key (by decide))), H.see s s' [isKey wLp, isKind [5]] h (ahead_two (cn_key (by decide)) (cn_kind (by decide))), H.see s s' [isKey wLp] h (ahead_one (cn_key (by decide)))]
  split
  · exact sim_match H hE hP kE kP kE' kP' s s' h
  · split
    · exact (sim_bind H h).map (fun a => [(⟨3, a, 0, 0⟩ : Nd)]) (fun a => [(⟨3, a, 0, 0⟩ : Nd)]) (by rintro a _ rfl; rfl)
    · split
      · exact (sim_parts0 H hE hP kE kP kE' kP' rParen s s' h).map (fun a => a.2.headD []) (fun a => a.2.headD []) (by rintro a _ rfl; rfl)
      · exact (sim_take H h _ (core_kind leafK)).map leafN leafN fun _ _ => leaf_core
omit H hE hP kE kP kE' kP' in
theorem ahead_begA : Ahead [either begA] := by
  refine ahead_one ⟨core_either ?_, norp_either ?_⟩ <;>
  · intro p hp
    simp [begA] at hp
    rcases hp with rfl | rfl | rfl <;> first | exact core_kind _ | exact core_key _ | exact norp_kind (by decide) | exact norp_key (by decide)
omit H hE hP kE kP kE' kP' in
theorem ahead_begP : Ahead [either begP] := by
  refine ahead_one ⟨core_either ?_, norp_either ?_⟩ <;>
  · intro p hp
    simp [begP] at hp
    rcases hp with rfl | rfl | rfl <;> first | exact core_kind _ | exact core_key _ | exact norp_kind (by decide) | exact norp_key (by decide)
theorem sim_appL (k : Nat) : ∀ (s s' : St), R s s' → Out b R Eq (appL C E P k s) (appL C' E' P' k s') := by
  induction k with
  | zero => intro s s' h; exact (sim_atom H hE hP kE kP kE' kP' s s' h).map (fun a => [a]) (fun a => [a]) (by rintro a _ rfl; rfl)
  | succ k ih =>
    intro s s' h
    unfold appL
    refine Out.seq (fun a s => if sees [either begA] s.rest = true then (a :: (appL C E P k s).1, (appL C E P k s).2) else ([a], s)) (fun a s => if sees [either begA] s.rest = true then (a :: (appL C' E' P' k s).1, (appL C' E' P' k s).2) else ([a], s)) (sim_atom H hE hP kE kP kE' kP' s s' h) ?_ ?_ ?_
    · rintro a _ s s' rfl h
      try simp only
      rw [H.see s s' _ h ahead_begA]
      split
      · exact (ih s s' h).map (fun l => a :: l) (fun l => a :: l) (by rintro l _ rfl; rfl)
      · exact .inl ⟨rfl, h⟩
    · intro a s h; simp only [sees_nil h]; rfl
    · intro a s h; simp only [sees_nil h]; rfl
theorem sim_app (s s' : St) (h : R s s') : Out b R Eq (appM C E P s) (appM C' E' P' s') := by
  unfold appM
  exact (sim_appL H hE hP kE kP kE' kP' 1000 s s' h).map appN appN (by rintro a _ rfl; rfl)
/-- Operators of both, and their right parts. -/
def OpsR (PR : Int → Int → Prop) (x y : List Tok × List (List Nd)) : Prop := All2 (tokR PR) x.1 y.1 ∧ x.2 = y.2
theorem sim_opsL (k : Nat) : ∀ (s s' : St), R s s' → Out b R (OpsR PR) (opsL C E P k s) (opsL C' E' P' k s') := by
  induction k with
  | zero => intro s s' h; exact .inl ⟨⟨.nil, rfl⟩, h⟩
  | succ k ih =>
    intro s s' h
    unfold opsL
    rw [H.see s s' [isKind [5]] h (ahead_one (cn_kind (by decide)))]
    split
    · rename_i hs
      refine Out.seq (fun t s => (((t :: (opsL C E P k (appM C E P s).2).1.1), ((appM C E P s).1 :: (opsL C E P k (appM C E P s).2).1.2)), (opsL C E P k (appM C E P s).2).2)) (fun t s => (((t :: (opsL C' E' P' k (appM C' E' P' s).2).1.1), ((appM C' E' P' s).1 :: (opsL C' E' P' k (appM C' E' P' s).2).1.2)), (opsL C' E' P' k (appM C' E' P' s).2).2)) (sim_took H h _ (core_kind [5]) hs) ?_ ?_ ?_
      · intro t t' s s' ht h
        refine Out.seq (fun a s => (((t :: (opsL C E P k s).1.1), (a :: (opsL C E P k s).1.2)), (opsL C E P k s).2)) (fun a s => (((t' :: (opsL C' E' P' k s).1.1), (a :: (opsL C' E' P' k s).1.2)), (opsL C' E' P' k s).2)) (sim_app H hE hP kE kP kE' kP' s s' h) ?_ (fun a => opsL_sk kE kP k) (fun a => opsL_sk kE' kP' k)
        rintro a _ s s' rfl h
        refine (ih s s' h).map (fun l => ((t :: l.1), (a :: l.2))) (fun l => ((t' :: l.1), (a :: l.2))) ?_
        rintro l l' ⟨h1, h2⟩
        exact ⟨.cons ht h1, by simp [h2]⟩
      · intro a s h; simp only [appM_sk kE kP s h, opsL_sk kE kP k s h]
      · intro a s h; simp only [appM_sk kE' kP' s h, opsL_sk kE' kP' k s h]
    · exact .inl ⟨⟨.nil, rfl⟩, h⟩
omit hE hP kE kP kE' kP' in
theorem bad_ops {x y : List Tok} (h : All2 (tokR PR) x y) : (badOp C x = none ∧ badOp C' y = none) ∨ ∃ o o', badOp C x = some o ∧ badOp C' y = some o' ∧ tokR PR o o' := by
  induction h with
  | nil => exact .inl ⟨rfl, rfl⟩
  | cons ht hs ih =>
    rename_i t t' l l'
    unfold badOp at ih ⊢
    rw [List.find?_cons, List.find?_cons, H.fs, ← ht.1.2.1]
    rw [H.fs] at ih
    cases (find C.fs t.text).isNone with
    | true => exact .inr ⟨t, t', rfl, rfl, ht⟩
    | false => exact ih
omit H hE hP kE kP kE' kP' in
theorem ops_texts {x y : List Tok} (h : All2 (tokR PR) x y) : y.map Tok.text = x.map Tok.text := by
  induction h with
  | nil => rfl
  | cons ht hs ih => rw [List.map_cons, List.map_cons, ih, ht.1.2.1]
omit H hE hP kE kP kE' kP' in
theorem need_map (C : Cfg) (x : List Tok) : needF C x = (x.map Tok.text).foldl (fun acc o => match find C.fs o with | some f => if (find acc o).isSome = true then acc else acc ++ [f] | none => acc) [] := by
  unfold needF
  rw [List.foldl_map]
omit hE hP kE kP kE' kP' in
theorem need_ops {x y : List Tok} (h : All2 (tokR PR) x y) : needF C' y = needF C x := by
  rw [need_map, need_map, ops_texts h, H.fs]
omit hE hP kE kP kE' kP' in
theorem sim_struct {x x' : Int} (hx : PR x x') {o o' : List Tok} (ho : All2 (tokR PR) o o') (s s' : St) (h : R s s') : Out b R Eq (structM C x o s) (structM C' x' o' s') := by
  unfold structM
  rcases bad_ops H ho with ⟨h1, h2⟩ | ⟨t, t', h1, h2, ht⟩
  · rw [h1, h2]
    simp only [H.climb, need_ops H ho, ops_texts ho]
    split
    · exact .inl ⟨rfl, h⟩
    · rcases H.fail s s' x x' 72 (by decide) h hx with h3 | h3
      · exact .inl ⟨rfl, h3⟩
      · exact .inr h3
  · rw [h1, h2]
    rcases H.fail s s' _ _ 71 (by decide) h ht.2 with h3 | h3
    · exact .inl ⟨rfl, h3⟩
    · exact .inr h3
omit H hE hP kE kP kE' kP' in
theorem opN_ops {x y : List Tok} (h : All2 (tokR PR) x y) (l : List (List Nd)) : opN y l = opN x l := by
  funext k
  unfold opN
  split
  · rfl
  · have : ∀ i : Nat, (y.getD i tok0).text = (x.getD i tok0).text := by
      intro i
      induction h generalizing i with
      | nil => rfl
      | cons ht hs ih =>
        cases i with
        | zero => simpa using ht.1.2.1.symm
        | succ i => simpa using ih i
    rw [this]
/-- The rest of a row, behind its first app. -/
def rowT (C : Cfg) (E P : Par) (x : Int) (a : List Nd) (s : St) : List Nd × St :=
  if (opsL C E P 1000 s).1.1 = [] then (a, (opsL C E P 1000 s).2)
  else ((structM C x (opsL C E P 1000 s).1.1 (opsL C E P 1000 s).2).1.flatMap (opN (opsL C E P 1000 s).1.1 (a :: (opsL C E P 1000 s).1.2)), (structM C x (opsL C E P 1000 s).1.1 (opsL C E P 1000 s).2).2)
omit H hE hP kE kP kE' kP' in
theorem rowM_eq (s : St) : rowM C E P s = rowT C E P (here C s) (appM C E P s).1 (appM C E P s).2 := rfl
def rowU (C : Cfg) (x : Int) (a : List Nd) (l : List Tok × List (List Nd)) (s : St) : List Nd × St :=
  if l.1 = [] then (a, s) else ((structM C x l.1 s).1.flatMap (opN l.1 (a :: l.2)), (structM C x l.1 s).2)
omit H hE hP kE kP kE' kP' in
theorem rowT_eq (x : Int) (a : List Nd) (s : St) : rowT C E P x a s = rowU C x a (opsL C E P 1000 s).1 (opsL C E P 1000 s).2 := rfl
omit H hE hP kE kP kE' kP' in
theorem rowU_sk (x : Int) (a : List Nd) (l : List Tok × List (List Nd)) : Sk (rowU C x a l) := fun s h => by
  unfold rowU
  split
  · rfl
  · exact structM_sk _ _ s h
omit H hE hP kE' kP' in
theorem rowT_sk (x : Int) (a : List Nd) : Sk (rowT C E P x a) := fun s h => by
  rw [rowT_eq, opsL_sk kE kP 1000 s h]
  exact rowU_sk _ _ _ s h
theorem sim_row (s s' : St) (h : R s s') : Out b R Eq (rowM C E P s) (rowM C' E' P' s') := by
  rw [rowM_eq, rowM_eq]
  have hx := H.here s s' h
  refine Out.seq (rowT C E P (here C s)) (rowT C' E' P' (here C' s')) (sim_app H hE hP kE kP kE' kP' s s' h) ?_ (fun a => rowT_sk kE kP _ a) (fun a => rowT_sk kE' kP' _ a)
  rintro a _ t t' rfl ht
  rw [rowT_eq, rowT_eq]
  refine Out.seq (rowU C (here C s) a) (rowU C' (here C' s') a) (sim_opsL H hE hP kE kP kE' kP' 1000 t t' ht) ?_ (fun l => rowU_sk _ a l) (fun l => rowU_sk _ a l)
  rintro l l' u u' ⟨hl, hk⟩ hu
  unfold rowU
  by_cases h0 : l.1 = []
  · have h1 : l'.1 = [] := (all2_nil hl).1 h0
    rw [if_pos h0, if_pos h1]
    exact .inl ⟨rfl, hu⟩
  · have h1 : ¬ l'.1 = [] := fun h1 => h0 ((all2_nil hl).2 h1)
    rw [if_neg h0, if_neg h1, ← hk, opN_ops hl]
    exact (sim_struct H hx hl u u' hu).map (fun c => c.flatMap (opN l.1 (a :: l.2))) (fun c => c.flatMap (opN l.1 (a :: l.2))) (by rintro c _ rfl; rfl)
theorem sim_exprB (s s' : St) (h : R s s') : Out b R Eq (exprB C E P s) (exprB C' E' P' s') := by
  unfold exprB
  rw [H.see s s' [isKey wFun] h (ahead_one (cn_key (by decide))), H.see s s' [isKey wLet, isKey wRec] h (ahead_two (cn_key (by decide)) (cn_key (by decide))), H.see s s' [isKey wLet] h (ahead_one (cn_key (by decide))), H.see s s' [isKey wIf] h (ahead_one (cn_key (by decide))), H.see s s' [isKey wRaise] h (ahead_one (cn_key (by decide))), H.see s s' [isKey wTry] h (ahead_one (cn_key (by decide)))]
  repeat' split
  all_goals first
    | exact sim_form H hE hP kE kP kE' kP' _ _ s s' h
    | exact sim_row H hE hP kE kP kE' kP' s s' h
theorem sim_patom (s s' : St) (h : R s s') : Out b R Eq (patomM C E P s) (patomM C' E' P' s') := by
  unfold patomM
  rw [H.see s s' [isKey wAny] h (ahead_one (cn_key (by decide))), H.see s s' [isKind [3]] h (ahead_one (cn_kind (by decide))), H.see s s' [isKind [2]] h (ahead_one (cn_kind (by decide))), H.see s s' [isKey wLp] h (ahead_one (cn_key (by decide))), H.see s s' [isKey wLp, isKind [5]] h (ahead_two (cn_key (by decide)) (cn_kind (by decide)))]
  split
  · exact (sim_take H h _ (core_key wAny)).map (fun _ => [(⟨21, ByteArray.empty, 0, 0⟩ : Nd)]) (fun _ => [(⟨21, ByteArray.empty, 0, 0⟩ : Nd)]) fun _ _ _ => rfl
  · split
    · exact (sim_take H h _ (core_kind [3])).map (fun t => [(⟨23, ByteArray.empty, t.num, 0⟩ : Nd)]) (fun t => [(⟨23, ByteArray.empty, t.num, 0⟩ : Nd)]) fun _ _ ht => by rw [ht.2.2]
    · split
      · exact (sim_take H h _ (core_kind [2])).map (fun t => [(⟨24, t.text, 0, 0⟩ : Nd)]) (fun t => [(⟨24, t.text, 0, 0⟩ : Nd)]) fun _ _ ht => by rw [ht.2.1]
      · split
        · exact (sim_parts0 H hE hP kE kP kE' kP' rPPat s s' h).map (fun a => a.2.headD []) (fun a => a.2.headD []) (by rintro a _ rfl; rfl)
        · exact (sim_bind H h).map (fun a => [(⟨22, a, 0, 0⟩ : Nd)]) (fun a => [(⟨22, a, 0, 0⟩ : Nd)]) (by rintro a _ rfl; rfl)
theorem sim_patL (k : Nat) : ∀ (s s' : St), R s s' → Out b R Eq (patL C E P k s) (patL C' E' P' k s') := by
  induction k with
  | zero => intro s s' h; exact .inl ⟨rfl, h⟩
  | succ k ih =>
    intro s s' h
    unfold patL
    rw [H.see s s' _ h ahead_begP]
    split
    · refine Out.seq (fun a s => (a :: (patL C E P k s).1, (patL C E P k s).2)) (fun a s => (a :: (patL C' E' P' k s).1, (patL C' E' P' k s).2)) (sim_patom H hE hP kE kP kE' kP' s s' h) ?_ (fun a => patL_sk k) (fun a => patL_sk k)
      rintro a _ s s' rfl h
      exact (ih s s' h).map (fun l => a :: l) (fun l => a :: l) (by rintro l _ rfl; rfl)
    · exact .inl ⟨rfl, h⟩
theorem sim_patB (s s' : St) (h : R s s') : Out b R Eq (patB C E P s) (patB C' E' P' s') := by
  unfold patB
  rw [H.see s s' [isKind [2]] h (ahead_one (cn_kind (by decide)))]
  split
  · refine Out.seq (fun t s => (makeN ⟨24, t.text, 0, 0⟩ (patL C E P 1000 s).1, (patL C E P 1000 s).2)) (fun t s => (makeN ⟨24, t.text, 0, 0⟩ (patL C' E' P' 1000 s).1, (patL C' E' P' 1000 s).2)) (sim_take H h _ (core_kind [2])) ?_ (fun t => patL_sk 1000) (fun t => patL_sk 1000)
    intro t t' s s' ht h
    refine (sim_patL H hE hP kE kP kE' kP' 1000 s s' h).map (fun l => makeN ⟨24, t.text, 0, 0⟩ l) (fun l => makeN ⟨24, t'.text, 0, 0⟩ l) ?_
    rintro l _ rfl
    simp only [ht.2.1]
  · exact sim_patom H hE hP kE kP kE' kP' s s' h
end
/-- Both, one of which may be deeper inside. -/
theorem sim_ep {C C' : Cfg} {b : Prop} {R : St → St → Prop} {PR : Int → Int → Prop} (H : Rels C C' b R PR) (k : Nat)
    (h0 : ∀ s s', R s s' → Out b R Eq ((epM C k).1 s) (deepM C' s') ∧ Out b R Eq ((epM C k).2 s) (deepM C' s')) (n : Nat) :
    ∀ s s', R s s' → Out b R Eq ((epM C (n + k)).1 s) ((epM C' n).1 s') ∧ Out b R Eq ((epM C (n + k)).2 s) ((epM C' n).2 s') := by
  induction n with
  | zero => rw [Nat.zero_add]; exact h0
  | succ n ih =>
    rw [show n + 1 + k = (n + k) + 1 by omega]
    intro s s' h
    exact ⟨sim_exprB H (fun s s' h => (ih s s' h).1) (fun s s' h => (ih s s' h).2) (ep_sk _).1 (ep_sk _).2 (ep_sk _).1 (ep_sk _).2 s s' h,
      sim_patB H (fun s s' h => (ih s s' h).1) (fun s s' h => (ih s s' h).2) (ep_sk _).1 (ep_sk _).2 (ep_sk _).1 (ep_sk _).2 s s' h⟩
end Go.Proofs.ParMath
