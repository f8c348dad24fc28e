/- Texts of this seat, one behind the other: TyG, TyH, TyI, TyL, TyM, TyQ, TyN. -/
import Derived.Test.YtncifeeinogcnaaGreatDoorKn15
import Derived.Test.YtncifeeinogcnaaGreatDoorKn03
import Derived.Lib.QuietBelow
import Derived.StillTailTactics
import Derived.Deep.RegionHeld3
import Derived.BigRegion
import Derived.Deep.RegionWith
import Derived.Deep.DeepCutAuto
import Derived.LaidEqlPtr
import Derived.Deep.CutBlock
import Derived.WalkSmall
/- A solver in a world: what is yet to be made the same, and the variables to be asked. -/
set_option maxRecDepth 100000
namespace Go.Proofs.YtncifeeinogcnaaGreatDoor
open Go.RowKit Go.Lib Go.Proofs.TreeMath

theorem row_form {w : World} {B : Nat} {e : TypeId} {size n : Nat} {v : Value} {xs : List Value} (h : w.ownsRow B e size v n xs) : ∃ q c, v = .slice q n c := by
  rcases h.2 with ⟨rfl, e⟩ | ⟨g, cap, cur, rfl, _⟩
  · exact ⟨none, 0, by rw [e]⟩
  · exact ⟨_, _, rfl⟩
theorem row_ty {w : World} {B : Nat} {e : TypeId} {size n : Nat} {v : Value} {xs : List Value} (h : w.ownsRow B e size v n xs) {g : Nat} (hg : v.ownBlock = some g) : ∃ cur, w.heap[g]? = some (.cells cur e (0, 0)) := by
  rcases h.2 with ⟨rfl, _⟩ | ⟨g', cap, cur, rfl, _, hg', _⟩
  · simp [Value.ownBlock] at hg
  · simp only [Value.ownBlock, Option.some.injEq] at hg
    subst hg
    exact ⟨cur, hg'⟩
def eqCells (op : List (Nat × Nat)) : List Value := op.flatMap fun p => [pv p.1, pv p.2]
theorem Frm.one {B pb : Nat} {a w : World} (h : Below B a w) (i : Nat) (u : Value) : Frm (fun k => k = pb) B a (w.setCell ⟨pb, i, none⟩ u) :=
  (Frm.of_below h).trans ⟨rfl, rfl, rfl, by simp [World.setCell], fun k _ hn => Below.heap_setCell _ _ _ _ hn⟩
def SS.Dp (S : SS) (pb k : Nat) : Prop := k ∈ S.dom ∨ k = pb
theorem TW.fit {B : Nat} {w : World} {S : SS} (h : TW B w S) : B ≤ w.heap.size := by obtain ⟨y, k⟩ := h; exact k.fit
structure SV (B pb : Nat) (w : World) (S : SS) (bd : List Nat) (op : List (Nat × Nat)) : Prop where
  tw : TW B w S
  ex : ∃ ov bv, w.heap[pb]? = some (.cells #[ov, bv] 128 (0, 0)) ∧ w.ownsRow B 132 2 ov op.length (eqCells op) ∧ w.ownsRow B 93 1 bv bd.length (bd.map pv)
/-- What is written in terms leaves the solver as it is. -/
theorem SV.terms {B pb : Nat} {w w' : World} {S S2 : SS} {bd : List Nat} {op : List (Nat × Nat)} (h : SV B pb w S bd op) (ht : TW B w' S2) (he : ∀ k, (B ≤ k ∨ k = pb) → k < w.heap.size → w'.heap[k]? = w.heap[k]?) : SV B pb w' S2 bd op := by
  obtain ⟨ov, bv, hp, ho, hb⟩ := h.ex
  have hpl : pb < w.heap.size := (Array.getElem?_eq_some_iff.1 hp).1
  exact ⟨ht, ov, bv, (he pb (.inr rfl) hpl).trans hp, World.ownsRow.keep ho fun k hk => he k (.inl (World.ownsRow.there ho hk).1) (World.ownsRow.there ho hk).2, World.ownsRow.keep hb fun k hk => he k (.inl (World.ownsRow.there hb hk).1) (World.ownsRow.there hb hk).2⟩
end Go.Proofs.YtncifeeinogcnaaGreatDoor
/- The contract of unite. -/
set_option maxRecDepth 100000
namespace Go.Proofs.YtncifeeinogcnaaGreatDoor
open Go.RowKit Go.Lib Go.Proofs.TreeMath

def SS.gr (S : SS) (tr : Nat → T) : Gr := ⟨(· ∈ S.dom), S.node, S.kids, tr⟩
def S1 (S : SS) (tr : Nat → T) (X Y : Nat) : SS := { S with wi := wiU (S.gr tr) S.wi X Y }
def S2 (S : SS) (tr : Nat → T) (X Y : Nat) : SS := { S with rep := merge S.rep X Y, wi := wiU (S.gr tr) S.wi X Y }
def UT (B pb : Nat) (S : SS) (tr : Nat → T) (bd : List Nat) (op : List (Nat × Nat)) (X Y : Nat) (w : World) (e : Ending) (w' : World) : Prop :=
  e = .returned (.bool true) ∧ SV B pb w' (S2 S tr X Y) (bdU (S.gr tr) S.wi bd X Y) (op ++ (S.kids Y).zip (S.kids X)) ∧ Frm (S.Dp pb) B w w'
theorem KidsAt.form {B : Nat} {w : World} {v : Value} {ks : List Nat} (h : KidsAt B w v ks) : ∃ q c, v = .slice q ks.length c ∧ (0 < ks.length → ∃ g, q = some ⟨g, 0, none⟩ ∧ g < B) ∧ ks.length ≤ c ∧ c ≤ maxLen := by
  rcases h.1.2 with ⟨rfl, e⟩ | ⟨g, cap, cur, rfl, _, _, h1, h2, _⟩
  · exact ⟨none, 0, by rw [e], fun h => by omega, by omega, by unfold maxLen; omega⟩
  · exact ⟨_, cap, rfl, fun _ => ⟨g, rfl, h.2 g rfl⟩, h1, h2⟩
theorem lit_cells (w : World) (cs : Array Value) (T : TypeId) : CellsIn (w.alloc (.cells cs T)) w.heap.size 0 cs.toList := fun j u hj => by
  have : (w.alloc (.cells cs T)).heap[w.heap.size]? = some (.cells cs T (0, 0)) := by show (w.heap.push _)[w.heap.size]? = _; simp
  rw [cell_of_heap this]
  simpa using hj
theorem KidsAt.frm {B : Nat} {w w' : World} {S : SS} (h : TW B w S) {v : Value} {ks : List Nat} (k : KidsAt B w v ks) (f : Frm S.D B w w') : KidsAt B w' v ks := by
  obtain ⟨y, hb⟩ := h
  exact k.of_block fun g hg => f.block g (k.2 g hg) fun hd => hb.ne_row hd k hg rfl
end Go.Proofs.YtncifeeinogcnaaGreatDoor
/- The contract of unite: what follows when one gives way to another one. -/
set_option maxRecDepth 100000
namespace Go.Proofs.YtncifeeinogcnaaGreatDoor
open Go.RowKit Go.Lib Go.Proofs.TreeMath

theorem TW.blk {B : Nat} {w : World} {S : SS} (h : TW B w S) {x : Nat} (hx : x ∈ S.dom) : x < B ∧ ∃ cs, w.heap[x]? = some (.cells cs 136 (0, 0)) := by
  obtain ⟨by_, k⟩ := h
  obtain ⟨h1, kv, h2, _⟩ := k.blk x hx
  exact ⟨h1, _, h2⟩
theorem SV.below {B pb : Nat} {w w' : World} {S : SS} {bd : List Nat} {op : List (Nat × Nat)} (h : SV B pb w S bd op) (b : Below w.heap.size w w') : SV B pb w' S bd op := by
  obtain ⟨ov, bv, hp, ho, hb⟩ := h.ex
  exact h.terms (h.tw.below (b.mono (by obtain ⟨y, k⟩ := h.tw; exact k.fit))) (fun k _ hk => b.block k hk)
end Go.Proofs.YtncifeeinogcnaaGreatDoor
/- The contract of unite, all of it; a solver's last equation is taken. -/
set_option maxRecDepth 100000
namespace Go.Proofs.YtncifeeinogcnaaGreatDoor
open Go.RowKit Go.Lib Go.Proofs.TreeMath

def Wins (S : SS) (X Y : Nat) : Prop := ((S.node Y).kind = 31 ∧ ((S.node X).kind = 31 → (S.node X).num ≤ (S.node Y).num)) ∨ ((S.node Y).kind ≠ 31 ∧ (S.node X).kind ≠ 31 ∧ S.node X = S.node Y)
inductive UnP (B pb : Nat) (S : SS) (tr : Nat → T) (bd : List Nat) (op : List (Nat × Nat)) (x y : Nat) (w : World) (e : Ending) (w' : World) : Prop
  | same (h : x = y) (he : e = .returned (.bool true)) (hs : SV B pb w' S bd op) (hf : Frm (S.Dp pb) B w w')
  | gives (X Y : Nat) (hxy : (X = x ∧ Y = y) ∨ (X = y ∧ Y = x)) (hne : X ≠ Y) (hw : Wins S X Y) (h : UT B pb S tr bd op X Y w e w')
  | clash (h1 : (S.node x).kind ≠ 31) (h2 : (S.node y).kind ≠ 31) (hn : S.node x ≠ S.node y) (he : e = .returned (.bool false)) (hf : Frm (S.Dp pb) B w w')
end Go.Proofs.YtncifeeinogcnaaGreatDoor
/- The contract of solve. -/
set_option maxRecDepth 100000
namespace Go.Proofs.YtncifeeinogcnaaGreatDoor
open Go.RowKit Go.Lib Go.Proofs.TreeMath

/-- How much is yet to be done. -/
def mS (G : Gr) (dom : List Nat) (rep : Nat → Nat) (op : List (Nat × Nat)) : Nat := wt G dom (fun x => decide (rep x = x)) + op.length
structure SR (B pb M : Nat) (S : SS) (tr : Nat → T) (es : List (T × T)) (w : World) (k : Nat) (wr : World) (rep : Nat → Nat) (wi : Nat → Bool) (bd : List Nat) (op : List (Nat × Nat)) : Prop where
  lp : Lp (S.gr tr) es S.rep S.wi rep wi bd op
  sv : SV B pb wr { S with rep := rep, wi := wi } bd op
  fr : Frm (S.Dp pb) B w wr
  le : mS (S.gr tr) S.dom rep op ≤ k
  bd : bd.length + mS (S.gr tr) S.dom rep op ≤ M
def SolR (B pb M : Nat) (S : SS) (tr : Nat → T) (es : List (T × T)) (w : World) (k : Nat) (wr : World) : Prop := ∃ rep wi bd op, SR B pb M S tr es w k wr rep wi bd op
theorem merge_root {rep : Nat → Nat} {X Y : Nat} (hX : rep X = X) (hne : X ≠ Y) (z : Nat) (h : merge rep X Y z = z) : rep z = z ∧ z ≠ Y := by
  unfold merge at h
  split at h
  · rename_i e
    subst h
    rw [hX] at e
    exact absurd e hne
  · rename_i e
    exact ⟨h, fun e2 => e (by rw [h]; exact e2)⟩
theorem mS_pop (G : Gr) (dom : List Nat) (rep : Nat → Nat) (op : List (Nat × Nat)) (p : Nat × Nat) : mS G dom rep op + 1 = mS G dom rep (op ++ [p]) := by
  unfold mS; rw [List.length_append, List.length_singleton]; omega
theorem mS_unite (G : Gr) (dom : List Nat) (rep : Nat → Nat) (op : List (Nat × Nat)) (p : Nat × Nat) {X Y : Nat} (hY : Y ∈ dom) (rX : rep X = X) (rY : rep Y = Y) (hne : X ≠ Y) :
    mS G dom (merge rep X Y) (op ++ (G.kids Y).zip (G.kids X)) + 2 ≤ mS G dom rep (op ++ [p]) := by
  have h := wt_lt G dom (fun x => decide (rep x = x)) (fun x => decide (merge rep X Y x = x)) (fun z hz => by
    have := (merge_root rX hne z (of_decide_eq_true hz)).1
    exact decide_eq_true this) Y hY (decide_eq_true rY) (by
      apply decide_eq_false
      intro e
      exact (merge_root rX hne Y e).2 rfl)
  unfold mS
  rw [List.length_append, List.length_append, List.length_singleton, List.length_zip]
  omega
def SolH (B pb : Nat) (S : SS) (bd : List Nat) (op : List (Nat × Nat)) (w0 w : World) : Prop := SV B pb w S bd op ∧ Frm S.D w0.heap.size w0 w
theorem SolH.below {B pb : Nat} {S : SS} {bd : List Nat} {op : List (Nat × Nat)} {w0 w w' : World} (h : SolH B pb S bd op w0 w) (b : Below w.heap.size w w') : SolH B pb S bd op w0 w' :=
  ⟨h.1.below b, h.2.trans (Frm.of_below (b.mono h.2.size))⟩
end Go.Proofs.YtncifeeinogcnaaGreatDoor
/- A store's terms: one more. -/
set_option maxRecDepth 100000
namespace Go.Proofs.YtncifeeinogcnaaGreatDoor
open Go.RowKit Go.Lib Go.Proofs.TreeMath

def upd {α : Type} (f : Nat → α) (X : Nat) (v : α) : Nat → α := fun y => if y = X then v else f y
theorem upd_same {α : Type} (f : Nat → α) (X : Nat) (v : α) : upd f X v X = v := by simp [upd]
theorem upd_other {α : Type} (f : Nat → α) {X y : Nat} (v : α) (h : y ≠ X) : upd f X v y = f y := by simp [upd, h]
structure Core (S : SS) (tr : Nat → T) (es : List (T × T)) : Prop where
  ok : (S.gr tr).Ok
  sol : Sol (S.gr tr) es S.rep []
  wk : Wk (S.gr tr) S.rep S.wi
  acc : ∀ x, x ∈ S.dom → Acc (Ed (S.gr tr) S.rep) (S.rep x)
def SS.add (S : SS) (X : Nat) (n : Nd) (ks : List Nat) (ro : Option Nat) : SS := ⟨X :: S.dom, upd S.node X n, upd S.kids X ks, S.rep, upd S.wi X false, upd S.mr X 0, upd S.row X ro⟩
theorem fo_upd (tr : Nat → T) (X : Nat) (t : T) (ks : List Nat) (h : X ∉ ks) : fo (upd tr X t) ks = fo tr ks := fo_congr' _ _ _ fun k hk => upd_other _ _ (by rintro rfl; exact h hk)
/-- One more term. -/
theorem Core.add {S : SS} {tr : Nat → T} {es : List (T × T)} (h : Core S tr es) {X : Nat} (hX : X ∉ S.dom) (n : Nd) (ks : List Nat) (ro : Option Nat) (hk : ∀ k ∈ ks, k ∈ S.dom)
    (hn : (n.kind = 31 ∧ n = vN n.num ∧ ks = [] ∧ ∀ y ∈ S.dom, (S.node y).kind = 31 → (S.node y).num ≠ n.num) ∨ (n.kind = 32 ∧ n.kids = (ks.length : Int))) (hw : ∀ k ∈ ks, (S.node (S.rep k)).kind = 31 → S.wi (S.rep k) = true) :
    Core (S.add X n ks ro) (upd tr X (n, fo tr ks)) es := by
  have hXk : X ∉ ks := fun hm => hX (hk X hm)
  have ne : ∀ {y}, y ∈ S.dom → y ≠ X := fun hy e => hX (e ▸ hy)
  have rX : S.rep X = X := h.sol.rout X hX
  have rd : ∀ {y}, y ∈ S.dom → S.rep y ∈ S.dom := fun {y} hy => h.sol.rin y hy
  have nd : ∀ {y}, y ∈ S.dom → (S.add X n ks ro).node y = S.node y := fun hy => upd_other _ _ (ne hy)
  have kd : ∀ {y}, y ∈ S.dom → (S.add X n ks ro).kids y = S.kids y := fun hy => upd_other _ _ (ne hy)
  have td : ∀ {y}, y ∈ S.dom → upd tr X (n, fo tr ks) y = tr y := fun hy => upd_other _ _ (ne hy)
  have nX : (S.add X n ks ro).node X = n := upd_same _ _ _
  have kX : (S.add X n ks ro).kids X = ks := upd_same _ _ _
  have tX : upd tr X (n, fo tr ks) X = (n, fo tr ks) := upd_same _ _ _
  have dm : ∀ {y}, y ∈ (S.add X n ks ro).dom → y = X ∨ y ∈ S.dom := fun hy => List.mem_cons.1 hy
  have fod : ∀ {y}, y ∈ S.dom → fo (upd tr X (n, fo tr ks)) (S.kids y) = fo tr (S.kids y) := fun {y} hy => fo_upd _ _ _ _ fun hm => hX (h.ok.kin y hy X hm)
  have ok : ((S.add X n ks ro).gr (upd tr X (n, fo tr ks))).Ok := by
    refine ⟨fun x hx hv => ?_, fun x hx hv => ?_, fun x hx k hk' => ?_, fun x y hx hy hvx hvy e => ?_⟩
    · change upd tr X (n, fo tr ks) x = ((S.add X n ks ro).node x, .nil) ∧ (S.add X n ks ro).node x = vN ((S.add X n ks ro).node x).num ∧ (S.add X n ks ro).kids x = []
      change ((S.add X n ks ro).node x).kind = 31 at hv
      rcases dm hx with rfl | hx
      · rw [nX] at hv ⊢
        rw [tX, kX]
        rcases hn with ⟨_, a, b, _⟩ | ⟨a, _⟩
        · rw [b]; exact ⟨rfl, a, rfl⟩
        · rw [a] at hv; exact absurd hv (by decide)
      · rw [nd hx] at hv ⊢
        rw [td hx, kd hx]
        exact h.ok.var x hx hv
    · change upd tr X (n, fo tr ks) x = ((S.add X n ks ro).node x, fo (upd tr X (n, fo tr ks)) ((S.add X n ks ro).kids x)) ∧ ((S.add X n ks ro).node x).kids = (((S.add X n ks ro).kids x).length : Int) ∧ ((S.add X n ks ro).node x).kind = 32
      change ((S.add X n ks ro).node x).kind ≠ 31 at hv
      rcases dm hx with rfl | hx
      · rw [nX] at hv ⊢
        rw [tX, kX, fo_upd _ _ _ _ hXk]
        rcases hn with ⟨a, _⟩ | ⟨a, b⟩
        · exact absurd a hv
        · exact ⟨rfl, b, a⟩
      · rw [nd hx] at hv ⊢
        rw [td hx, kd hx, fod hx]
        exact h.ok.con x hx hv
    · change k ∈ (S.add X n ks ro).kids x at hk'
      rcases dm hx with rfl | hx
      · rw [kX] at hk'; exact List.mem_cons_of_mem _ (hk k hk')
      · rw [kd hx] at hk'; exact List.mem_cons_of_mem _ (h.ok.kin x hx k hk')
    · change ((S.add X n ks ro).node x).kind = 31 at hvx
      change ((S.add X n ks ro).node y).kind = 31 at hvy
      change ((S.add X n ks ro).node x).num = ((S.add X n ks ro).node y).num at e
      rcases dm hx with rfl | hx'
      · rcases dm hy with rfl | hy'
        · rfl
        · rw [nX] at hvx e
          rw [nd hy'] at hvy e
          rcases hn with ⟨_, _, _, d⟩ | ⟨a, _⟩
          · exact absurd e.symm (d y hy' hvy)
          · rw [a] at hvx; exact absurd hvx (by decide)
      · rcases dm hy with rfl | hy'
        · rw [nX] at hvy e
          rw [nd hx'] at hvx e
          rcases hn with ⟨_, _, _, d⟩ | ⟨a, _⟩
          · exact absurd e (d x hx' hvx)
          · rw [a] at hvy; exact absurd hvy (by decide)
        · rw [nd hx'] at hvx e
          rw [nd hy'] at hvy e
          exact h.ok.uniq x y hx' hy' hvx hvy e
  refine ⟨ok, ⟨fun x hx => ?_, h.sol.rid, fun x hx => h.sol.rout x fun hd => hx (List.mem_cons_of_mem _ hd), by simp, fun s hs => ⟨fun x hx => ?_, by simp⟩, fun x hx hv => ?_, fun x hx hv hv2 => ?_, fun e he => ?_⟩, fun x hx k hk' hv => ?_, fun x hx => ?_⟩
  · rcases dm hx with rfl | hx
    · change S.rep x ∈ (S.add x n ks ro).dom; rw [rX]; exact List.mem_cons_self
    · exact List.mem_cons_of_mem _ (rd hx)
  · change subT s (upd tr X (n, fo tr ks) x) = subT s (upd tr X (n, fo tr ks) (S.rep x))
    rcases dm hx with rfl | hx
    · rw [rX]
    · rw [td hx, td (rd hx)]; exact (h.sol.snd s hs).1 x hx
  · change (S.add X n ks ro).node (S.rep x) = (S.add X n ks ro).node x ∧ ∀ i, Eqv S.rep [] (((S.add X n ks ro).kids x).getD i 0) (((S.add X n ks ro).kids (S.rep x)).getD i 0)
    change ((S.add X n ks ro).node x).kind ≠ 31 at hv
    rcases dm hx with rfl | hx
    · rw [rX]; exact ⟨rfl, fun i c _ _ => rfl⟩
    · rw [nd hx] at hv
      rw [nd hx, nd (rd hx), kd hx, kd (rd hx)]
      exact h.sol.cls x hx hv
  · change ((S.add X n ks ro).node (S.rep x)).num ≤ ((S.add X n ks ro).node x).num
    change ((S.add X n ks ro).node x).kind = 31 at hv
    change ((S.add X n ks ro).node (S.rep x)).kind = 31 at hv2
    rcases dm hx with rfl | hx
    · rw [rX]; exact Int.le_refl _
    · rw [nd hx] at hv
      rw [nd (rd hx)] at hv2
      rw [nd hx, nd (rd hx)]
      exact h.sol.least x hx hv hv2
  · obtain ⟨p, q, hp, hq, e1, e2, e3⟩ := h.sol.done e he
    exact ⟨p, q, List.mem_cons_of_mem _ hp, List.mem_cons_of_mem _ hq, (td hp).trans e1, (td hq).trans e2, e3⟩
  · change k ∈ (S.add X n ks ro).kids x at hk'
    change ((S.add X n ks ro).node (S.rep k)).kind = 31 at hv
    change upd S.wi X false (S.rep k) = true
    have hkd : k ∈ S.dom := by
      rcases dm hx with rfl | hx
      · rw [kX] at hk'; exact hk k hk'
      · rw [kd hx] at hk'; exact h.ok.kin x hx k hk'
    rw [nd (rd hkd)] at hv
    rw [upd_other _ _ (ne (rd hkd))]
    rcases dm hx with rfl | hx
    · rw [kX] at hk'; exact hw k hk' hv
    · rw [kd hx] at hk'; exact h.wk x hx k hk' hv
  · have old : ∀ r, Acc (Ed (S.gr tr) S.rep) r → r ∈ S.dom → Acc (Ed ((S.add X n ks ro).gr (upd tr X (n, fo tr ks))) S.rep) r := by
      intro r hr
      induction hr with
      | intro r _ ih =>
        intro hd
        refine Acc.intro r fun z hz => ?_
        obtain ⟨_, k, hk', rfl⟩ := hz
        change k ∈ (S.add X n ks ro).kids r at hk'
        rw [kd hd] at hk'
        exact ih _ ⟨hd, k, hk', rfl⟩ (rd (h.ok.kin r hd k hk'))
    rcases dm hx with rfl | hx
    · change Acc _ (S.rep x)
      rw [rX]
      refine Acc.intro x fun z hz => ?_
      obtain ⟨_, k, hk', rfl⟩ := hz
      change k ∈ (S.add x n ks ro).kids x at hk'
      rw [kX] at hk'
      exact old _ (h.acc k (hk k hk')) (rd (hk k hk'))
    · exact old _ (h.acc x hx) (rd hx)
/-- In a world. -/
theorem TW.raise {B C : Nat} {w : World} {S : SS} (h : TW B w S) (hC : B ≤ C) (hw : C ≤ w.heap.size) : TW C w S := by
  obtain ⟨y, k⟩ := h
  exact ⟨y, k.lead, k.bin, fun x hx => by
    obtain ⟨h1, kv, h2, h3⟩ := k.blk x hx
    exact ⟨by omega, kv, h2, fun e => ⟨⟨(h3 e).k.1, fun g hg => by have := (h3 e).k.2 g hg; omega⟩, (h3 e).r⟩⟩, k.kin, hw⟩
theorem TW.add {B : Nat} {w : World} {S : SS} (h : TW B w S) {X : Nat} (hX : X ∉ S.dom) (hXB : X < B) (n : Nd) (ks : List Nat) (ro : Option Nat) (hk : ∀ k ∈ ks, k ∈ S.dom) (kv : Value) (hb : w.heap[X]? = some (.cells (tmCells n kv none false 0) 136 (0, 0))) (hkv : KA B w kv ks ro) (rX : S.rep X = X) :
    TW B w (S.add X n ks ro) := by
  obtain ⟨y, k⟩ := h
  have yX := (k.none_iff X).2 rX
  refine ⟨y, k.lead, fun a b e => List.mem_cons_of_mem _ (k.bin a b e), fun x hx => ?_, fun x hx j hj => ?_, k.fit⟩
  · rcases List.mem_cons.1 hx with rfl | hx'
    · exact ⟨hXB, kv, by simp only [SS.add, upd_same, yX]; exact hb, fun _ => by simp only [SS.add, upd_same]; exact hkv⟩
    · have hne : x ≠ X := by rintro rfl; exact hX hx'
      simp only [SS.add, upd_other _ _ hne]
      exact k.blk x hx'
  · rcases List.mem_cons.1 hx with rfl | hx'
    · simp only [SS.add, upd_same] at hj; exact List.mem_cons_of_mem _ (hk j hj)
    · have hne : x ≠ X := by rintro rfl; exact hX hx'
      simp only [SS.add, upd_other _ _ hne] at hj
      exact List.mem_cons_of_mem _ (k.kin x hx' j hj)
end Go.Proofs.YtncifeeinogcnaaGreatDoor
/- The contract of solve: the walk. -/
set_option maxRecDepth 100000
namespace Go.Proofs.YtncifeeinogcnaaGreatDoor
open Go.RowKit Go.Lib Go.Proofs.TreeMath

theorem UnP.bool {B pb : Nat} {S : SS} {tr : Nat → T} {bd : List Nat} {op : List (Nat × Nat)} {x y : Nat} {w w' : World} {e : Ending} (h : UnP B pb S tr bd op x y w e w') : ∃ b, e = .returned (.bool b) ∧ Hid (UnP B pb S tr bd op x y w (.returned (.bool b)) w') := by
  have : ∃ b, e = .returned (.bool b) := by
    cases h with
    | same _ he _ _ => exact ⟨_, he⟩
    | gives _ _ _ _ _ h => exact ⟨_, h.1⟩
    | clash _ _ _ he _ => exact ⟨_, he⟩
  obtain ⟨b, rfl⟩ := this
  exact ⟨b, rfl, h⟩
/-- What follows one equation. -/
theorem SR.next {B pb M : Nat} {S : SS} {tr : Nat → T} {es : List (T × T)} {w wr : World} {k : Nat} {rep : Nat → Nat} {wi : Nat → Bool} {bd : List Nat} {op : List (Nat × Nat)} {p q : Nat} (hG : (S.gr tr).Ok) (h : SR B pb M S tr es w k wr rep wi bd (op ++ [(p, q)])) {wz W w2 : World} (hwz : Frm (S.Dp pb) B wr wz)
    (hB : B ≤ wz.heap.size) (hs : SolH B pb { S with rep := rep, wi := wi } bd op wz W) {b : Bool} (hu : UnP B pb { S with rep := rep, wi := wi } tr bd op (rep p) (rep q) W (.returned (.bool b)) w2) :
    (b = true ∧ ∃ j, j < k ∧ SolR B pb M S tr es w j w2) ∨ (b = false ∧ (∀ s, ¬ Un es s) ∧ Frm (S.Dp pb) B w w2) := by
  have hF : Frm (S.Dp pb) B w W := h.fr.trans (hwz.trans (hs.2.mono hB fun _ _ hd => .inl hd))
  have hm := mS_pop (S.gr tr) S.dom rep op (p, q)
  have hle := h.le
  have hbd := h.bd
  cases hu with
  | same e he hs2 hf =>
    simp only [Ending.returned.injEq, Value.bool.injEq] at he
    refine .inl ⟨he, mS (S.gr tr) S.dom rep op, by omega, rep, wi, bd, op, h.lp.pop e, hs2, hF.trans hf, Nat.le_refl _, by omega⟩
  | gives X Y hxy hne hw ut =>
    obtain ⟨he, hs2, hf⟩ := ut
    simp only [Ending.returned.injEq, Value.bool.injEq] at he
    have hXY : (X = rep p ∧ Y = rep q) ∨ (X = rep q ∧ Y = rep p) := hxy
    have ho := h.lp.sol.opin (p, q) (by simp)
    have hY : Y ∈ S.dom := by rcases hXY with ⟨_, rfl⟩ | ⟨_, rfl⟩ <;> exact h.lp.sol.rin _ (by first | exact ho.1 | exact ho.2)
    have rX : rep X = X := by rcases hXY with ⟨rfl, _⟩ | ⟨rfl, _⟩ <;> exact h.lp.sol.rid _
    have rY : rep Y = Y := by rcases hXY with ⟨_, rfl⟩ | ⟨_, rfl⟩ <;> exact h.lp.sol.rid _
    have hm2 := mS_unite (S.gr tr) S.dom rep op (p, q) hY rX rY hne
    have hlb : (bdU (S.gr tr) wi bd X Y).length ≤ bd.length + 1 := by
      unfold bdU
      split
      · simp
      · omega
    refine .inl ⟨he, mS (S.gr tr) S.dom (merge rep X Y) (op ++ (S.kids Y).zip (S.kids X)), ?_, merge rep X Y, wiU (S.gr tr) wi X Y, bdU (S.gr tr) wi bd X Y, _, h.lp.unite hG hXY hne hw, hs2, hF.trans hf, Nat.le_refl _, ?_⟩
    · have : mS (S.gr tr) S.dom (merge rep X Y) (op ++ (S.kids Y).zip (S.kids X)) + 2 ≤ mS (S.gr tr) S.dom rep (op ++ [(p, q)]) := hm2
      omega
    · have : mS (S.gr tr) S.dom (merge rep X Y) (op ++ ((S.gr tr).kids Y).zip ((S.gr tr).kids X)) + 2 ≤ mS (S.gr tr) S.dom rep (op ++ [(p, q)]) := hm2
      omega
  | clash h1 h2 hn he hf =>
    simp only [Ending.returned.injEq, Value.bool.injEq] at he
    exact .inr ⟨he, h.lp.sol.fail hG h1 h2 hn, hF.trans hf⟩
theorem alloc_top (w : World) (o : Obj) : (w.alloc o).heap[w.heap.size]? = some o := by show (w.heap.push o)[w.heap.size]? = _; simp
end Go.Proofs.YtncifeeinogcnaaGreatDoor
