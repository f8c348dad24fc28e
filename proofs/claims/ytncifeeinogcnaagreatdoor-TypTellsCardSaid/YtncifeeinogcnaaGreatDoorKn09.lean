/- Texts of this seat, one behind the other: TyL, TyM, TyQ. -/
import Derived.Test.YtncifeeinogcnaaGreatDoorKn07
import Derived.Test.YtncifeeinogcnaaGreatDoorKn08
/- The contract of unite, all of it; a solver's last equation is taken. -/
set_option maxRecDepth 100000
namespace Go.Proofs.YtncifeeinogcnaaGreatDoor
open Go.RowKit Go.Lib Go.Proofs.TreeMath

def Wins (S : SS) (X Y : Nat) : Prop := ((S.node Y).kind = 31 ∧ ((S.node X).kind = 31 → (S.node X).num ≤ (S.node Y).num)) ∨ ((S.node Y).kind ≠ 31 ∧ (S.node X).kind ≠ 31 ∧ S.node X = S.node Y)
inductive UnP (B pb : Nat) (S : SS) (tr : Nat → T) (bd : List Nat) (op : List (Nat × Nat)) (x y : Nat) (w : World) (e : Ending) (w' : World) : Prop
  | same (h : x = y) (he : e = .returned (.bool true)) (hs : SV B pb w' S bd op) (hf : Frm (S.Dp pb) B w w')
  | gives (X Y : Nat) (hxy : (X = x ∧ Y = y) ∨ (X = y ∧ Y = x)) (hne : X ≠ Y) (hw : Wins S X Y) (h : UT B pb S tr bd op X Y w e w')
  | clash (h1 : (S.node x).kind ≠ 31) (h2 : (S.node y).kind ≠ 31) (hn : S.node x ≠ S.node y) (he : e = .returned (.bool false)) (hf : Frm (S.Dp pb) B w w')
theorem unite_any (B pb : Nat) (S : SS) (tr : Nat → T) (bd : List Nat) (op : List (Nat × Nat)) (x y : Nat) (w : World) (h : SV B pb w S bd op) (hG : (S.gr tr).Ok) (hx : x ∈ S.dom) (hy : y ∈ S.dom) (rx : S.rep x = x) (ry : S.rep y = y)
    (lx : op.length + (S.kids x).length ≤ 1000000000) (ly : op.length + (S.kids y).length ≤ 1000000000) (lb : bd.length + 1 ≤ 1000000000) :
    Calls Tryz.prog 114 #[pv pb, pv x, pv y] w (UnP B pb S tr bd op x y w) := by
  by_cases hxy : x = y
  · subst hxy
    exact (unite_eq B pb S x w h.tw hx).mono fun e w' ⟨he, hw⟩ => by subst hw; exact .same rfl he h (Frm.refl _ _ _)
  · have vk : ∀ z, z ∈ S.dom → (S.node z).kind = 31 → S.kids z = [] := fun z hz hk => (hG.var z hz hk).2.2
    have ck : ∀ z, z ∈ S.dom → (S.node z).kind ≠ 31 → (S.node z).kids = ((S.kids z).length : Int) ∧ (S.node z).kind = 32 := fun z hz hk => (hG.con z hz hk).2
    have up : ∀ {X Y}, X ∈ S.dom → Y ∈ S.dom → S.rep X = X → S.rep Y = Y → X ≠ Y → op.length + (S.kids Y).length ≤ 1000000000 → UP B pb S tr bd op X Y :=
      fun {X Y} a b c d e f => ⟨hG, a, b, c, d, e, f, lb, fun he => by
        by_cases hk : (S.node X).kind = 31
        · rw [vk X a hk, vk Y b (by rw [← he]; exact hk)]
        · have h1 := (ck X a hk).1
          have h2 := (ck Y b (by rw [← he]; exact hk)).1
          rw [he] at h1
          omega⟩
    by_cases kx : (S.node x).kind = 31
    · by_cases ky : (S.node y).kind = 31
      · by_cases hlt : (S.node y).num < (S.node x).num
        · have hyb : yB (S.node x) (S.node y) = true := by simp [yB, kx, hlt]
          have U := up hy hx ry rx (Ne.symm hxy) lx
          have W : Wins S y x := .inl ⟨kx, fun _ => by omega⟩
          cases hwx : S.wi y with
          | true => exact (unite_vv_st B pb S tr bd op y x w h U hyb ky kx hwx).mono fun e w' k => .gives y x (.inr ⟨rfl, rfl⟩) (Ne.symm hxy) W k
          | false => exact (unite_vv_sf B pb S tr bd op y x w h U hyb ky kx hwx).mono fun e w' k => .gives y x (.inr ⟨rfl, rfl⟩) (Ne.symm hxy) W k
        · have hyb : yB (S.node x) (S.node y) = false := by simp [yB, ky]; intro _; omega
          have U := up hx hy rx ry hxy ly
          have W : Wins S x y := .inl ⟨ky, fun _ => by omega⟩
          cases hwx : S.wi x with
          | true => exact (unite_vv_nt B pb S tr bd op x y w h U hyb kx ky hwx).mono fun e w' k => .gives x y (.inl ⟨rfl, rfl⟩) hxy W k
          | false => exact (unite_vv_nf B pb S tr bd op x y w h U hyb kx ky hwx).mono fun e w' k => .gives x y (.inl ⟨rfl, rfl⟩) hxy W k
      · have ky2 := (ck y hy ky).2
        have hyb : yB (S.node x) (S.node y) = true := by simp [yB, kx, ky2]
        have U := up hy hx ry rx (Ne.symm hxy) lx
        have W : Wins S y x := .inl ⟨kx, fun h => absurd h ky⟩
        cases hwx : S.wi x with
        | true => exact (unite_vc_st B pb S tr bd op y x w h U hyb ky2 kx hwx).mono fun e w' k => .gives y x (.inr ⟨rfl, rfl⟩) (Ne.symm hxy) W k
        | false => exact (unite_vc_sf B pb S tr bd op y x w h U hyb ky2 kx hwx).mono fun e w' k => .gives y x (.inr ⟨rfl, rfl⟩) (Ne.symm hxy) W k
    · have kx2 := (ck x hx kx).2
      have hyb : yB (S.node x) (S.node y) = false := by simp [yB, kx]
      by_cases ky : (S.node y).kind = 31
      · have U := up hx hy rx ry hxy ly
        have W : Wins S x y := .inl ⟨ky, fun h => absurd h kx⟩
        cases hwx : S.wi y with
        | true => exact (unite_vc_nt B pb S tr bd op x y w h U hyb kx2 ky hwx).mono fun e w' k => .gives x y (.inl ⟨rfl, rfl⟩) hxy W k
        | false => exact (unite_vc_nf B pb S tr bd op x y w h U hyb kx2 ky hwx).mono fun e w' k => .gives x y (.inl ⟨rfl, rfl⟩) hxy W k
      · have ky2 := (ck y hy ky).2
        by_cases hn : S.node x = S.node y
        · exact (unite_con B pb S tr bd op x y w h (up hx hy rx ry hxy ly) hyb ky2 hn).mono fun e w' k => .gives x y (.inl ⟨rfl, rfl⟩) hxy (.inr ⟨ky, kx, hn⟩) k
        · exact (unite_clash B pb S tr bd op x y w h (up hx hy rx ry hxy ly) hyb ky2 hn).mono fun e w' k => .clash kx ky hn k.1 k.2
end Go.Proofs.YtncifeeinogcnaaGreatDoor
/- The contract of solve. -/
set_option maxRecDepth 100000
namespace Go.Proofs.YtncifeeinogcnaaGreatDoor
open Go.RowKit Go.Lib Go.Proofs.TreeMath

/-- How much is yet to be done. -/
def mS (G : Gr) (dom : List Nat) (rep : Nat → Nat) (op : List (Nat × Nat)) : Nat := wt G dom (fun x => decide (rep x = x)) + op.length
structure SR (B pb M : Nat) (S : SS) (tr : Nat → T) (es : List (T × T)) (w : World) (k : Nat) (wr : World) (rep : Nat → Nat) (wi : Nat → Bool) (bd : List Nat) (op : List (Nat × Nat)) : Prop where
  lp : Lp (S.gr tr) es S.rep S.wi rep wi bd op
  sv : SV B pb wr { S with rep := rep, wi := wi } bd op
  fr : Frm (S.Dp pb) B w wr
  le : mS (S.gr tr) S.dom rep op ≤ k
  bd : bd.length + mS (S.gr tr) S.dom rep op ≤ M
def SolR (B pb M : Nat) (S : SS) (tr : Nat → T) (es : List (T × T)) (w : World) (k : Nat) (wr : World) : Prop := ∃ rep wi bd op, SR B pb M S tr es w k wr rep wi bd op
inductive SolP (B pb : Nat) (S : SS) (tr : Nat → T) (es : List (T × T)) (w : World) (e : Ending) (w' : World) : Prop
  | yes (rep : Nat → Nat) (wi : Nat → Bool) (bd : List Nat) (he : e = .returned (.bool true)) (lp : Lp (S.gr tr) es S.rep S.wi rep wi bd []) (sv : SV B pb w' { S with rep := rep, wi := wi } bd []) (fr : Frm (S.Dp pb) B w w') (lb : bd.length ≤ 100000001)
  | no (he : e = .returned (.bool false)) (hn : ∀ s, ¬ Un es s) (fr : Frm (S.Dp pb) B w w')
theorem merge_root {rep : Nat → Nat} {X Y : Nat} (hX : rep X = X) (hne : X ≠ Y) (z : Nat) (h : merge rep X Y z = z) : rep z = z ∧ z ≠ Y := by
  unfold merge at h
  split at h
  · rename_i e
    subst h
    rw [hX] at e
    exact absurd e hne
  · rename_i e
    exact ⟨h, fun e2 => e (by rw [h]; exact e2)⟩
theorem mS_pop (G : Gr) (dom : List Nat) (rep : Nat → Nat) (op : List (Nat × Nat)) (p : Nat × Nat) : mS G dom rep op + 1 = mS G dom rep (op ++ [p]) := by
  unfold mS; rw [List.length_append, List.length_singleton]; omega
theorem mS_unite (G : Gr) (dom : List Nat) (rep : Nat → Nat) (op : List (Nat × Nat)) (p : Nat × Nat) {X Y : Nat} (hY : Y ∈ dom) (rX : rep X = X) (rY : rep Y = Y) (hne : X ≠ Y) :
    mS G dom (merge rep X Y) (op ++ (G.kids Y).zip (G.kids X)) + 2 ≤ mS G dom rep (op ++ [p]) := by
  have h := wt_lt G dom (fun x => decide (rep x = x)) (fun x => decide (merge rep X Y x = x)) (fun z hz => by
    have := (merge_root rX hne z (of_decide_eq_true hz)).1
    exact decide_eq_true this) Y hY (decide_eq_true rY) (by
      apply decide_eq_false
      intro e
      exact (merge_root rX hne Y e).2 rfl)
  unfold mS
  rw [List.length_append, List.length_append, List.length_singleton, List.length_zip]
  omega
/-- The last equation is taken. -/
theorem SV.cut {B pb : Nat} {w : World} {S : SS} {bd : List Nat} {op : List (Nat × Nat)} {p q : Nat} (h : SV B pb w S bd (op ++ [(p, q)])) :
    ∃ g co bv, w.heap[pb]? = some (.cells #[.slice (some ⟨g, 0, none⟩) (op.length + 1) co, bv] 128 (0, 0)) ∧ g < w.heap.size ∧ B ≤ g ∧ op.length + 1 ≤ co ∧ co ≤ maxLen ∧ w.cell? ⟨g, op.length * 2, none⟩ = some (pv p) ∧ w.cell? ⟨g, op.length * 2 + 1, none⟩ = some (pv q) ∧
      ∀ w', Below w.heap.size w w' → SV B pb (w'.setCell ⟨pb, 0, none⟩ (.slice (some ⟨g, 0, none⟩) op.length co)) S bd op := by
  obtain ⟨ov, bv, hp, ho, hb⟩ := h.ex
  have hl := ho.1
  rcases ho.2 with ⟨_, e⟩ | ⟨g, cap, cur, rfl, hBg, hg, hn, hm, hs, ht⟩
  · simp at e
  · rw [List.length_append, List.length_singleton] at hp hn ht
    have hgl : g < w.heap.size := (Array.getElem?_eq_some_iff.1 hg).1
    have he : eqCells (op ++ [(p, q)]) = eqCells op ++ [pv p, pv q] := by simp [eqCells]
    have hlo : (eqCells op).length = op.length * 2 := by
      rw [he] at hl; simp at hl; omega
    have hcell : ∀ j u, (eqCells (op ++ [(p, q)]))[j]? = some u → w.cell? ⟨g, j, none⟩ = some u := fun j u hj => by
      rw [← ht] at hj
      have := take_get hj
      rw [cell_of_heap hg]
      simpa using this
    refine ⟨g, cap, bv, hp, hgl, hBg, hn, hm, hcell _ _ (by rw [he, List.getElem?_append_right (by omega), hlo]; simp), hcell _ _ (by rw [he, List.getElem?_append_right (by omega), hlo]; simp), fun w' hw => ?_⟩
    have hpl : pb < w.heap.size := (Array.getElem?_eq_some_iff.1 hp).1
    have hBw : B ≤ w.heap.size := h.tw.fit
    have hp' := (hw.block pb hpl).trans hp
    have ngp : g ≠ pb := by rintro rfl; rw [hp] at hg; simp at hg
    refine ⟨(h.tw.below (hw.mono hBw)).frm1 hp' (Frm.one (Below.refl _ _) 0 _), _, bv, by rw [set_blk hp']; rfl, ⟨hlo, .inr ⟨g, cap, cur, rfl, hBg, ?_, by omega, hm, hs, ?_⟩⟩, World.ownsRow.keep hb fun k hk => ?_⟩
    · rw [Below.heap_setCell _ _ _ _ ngp, hw.block g hgl]; exact hg
    · rw [show cur.toList.take (op.length * 2) = (cur.toList.take ((op.length + 1) * 2)).take (op.length * 2) by rw [List.take_take, Nat.min_eq_left (by omega)], ht, he, List.take_append_of_le_length (by omega), List.take_of_length_le (by omega)]
    · obtain ⟨cur2, hc⟩ := row_ty hb hk
      have n1 : k ≠ pb := by rintro rfl; rw [hp] at hc; simp at hc
      rw [Below.heap_setCell _ _ _ _ n1, hw.block k (World.ownsRow.there hb hk).2]
def SolH (B pb : Nat) (S : SS) (bd : List Nat) (op : List (Nat × Nat)) (w0 w : World) : Prop := SV B pb w S bd op ∧ Frm S.D w0.heap.size w0 w
theorem SolH.below {B pb : Nat} {S : SS} {bd : List Nat} {op : List (Nat × Nat)} {w0 w w' : World} (h : SolH B pb S bd op w0 w) (b : Below w.heap.size w w') : SolH B pb S bd op w0 w' :=
  ⟨h.1.below b, h.2.trans (Frm.of_below (b.mono h.2.size))⟩
theorem SolH.root {B pb : Nat} {S : SS} {bd : List Nat} {op : List (Nat × Nat)} {w0 w w' : World} (h : SolH B pb S bd op w0 w) {r : Nat} {e : Ending} (k : RootP B S r w e w') : SolH B pb S bd op w0 w' := by
  refine ⟨h.1.terms k.2.1 fun j hj hl => k.2.2.block j hl fun hd => ?_, h.2.trans ?_⟩
  · exact h.1.not_term hd j hj rfl
  · exact k.2.2.mono h.2.size fun j _ hd => hd
theorem SolH.cellb {B pb : Nat} {S : SS} {bd : List Nat} {op : List (Nat × Nat)} {w0 w : World} (h : SolH B pb S bd op w0 w) {x i : Nat} {v : Value} (h0 : w0.cell? ⟨x, i, none⟩ = some v) (hB : B ≤ x) : w.cell? ⟨x, i, none⟩ = some v := by
  have hl : x < w0.heap.size := World.block_lt_of_cell? _ _ h0
  rw [World.cell?_of_block (w := w0) (a := ⟨x, i, none⟩) (h.2.block x hl fun hd => by have := (h.1.tw.blk hd).1; omega)]
  exact h0
end Go.Proofs.YtncifeeinogcnaaGreatDoor
/- A store's terms: one more. -/
set_option maxRecDepth 100000
namespace Go.Proofs.YtncifeeinogcnaaGreatDoor
open Go.RowKit Go.Lib Go.Proofs.TreeMath

def upd {α : Type} (f : Nat → α) (X : Nat) (v : α) : Nat → α := fun y => if y = X then v else f y
theorem upd_same {α : Type} (f : Nat → α) (X : Nat) (v : α) : upd f X v X = v := by simp [upd]
theorem upd_other {α : Type} (f : Nat → α) {X y : Nat} (v : α) (h : y ≠ X) : upd f X v y = f y := by simp [upd, h]
structure Core (S : SS) (tr : Nat → T) (es : List (T × T)) : Prop where
  ok : (S.gr tr).Ok
  sol : Sol (S.gr tr) es S.rep []
  wk : Wk (S.gr tr) S.rep S.wi
  acc : ∀ x, x ∈ S.dom → Acc (Ed (S.gr tr) S.rep) (S.rep x)
def SS.add (S : SS) (X : Nat) (n : Nd) (ks : List Nat) (ro : Option Nat) : SS := ⟨X :: S.dom, upd S.node X n, upd S.kids X ks, S.rep, upd S.wi X false, upd S.mr X 0, upd S.row X ro⟩
theorem fo_upd (tr : Nat → T) (X : Nat) (t : T) (ks : List Nat) (h : X ∉ ks) : fo (upd tr X t) ks = fo tr ks := fo_congr' _ _ _ fun k hk => upd_other _ _ (by rintro rfl; exact h hk)
/-- One more term. -/
theorem Core.add {S : SS} {tr : Nat → T} {es : List (T × T)} (h : Core S tr es) {X : Nat} (hX : X ∉ S.dom) (n : Nd) (ks : List Nat) (ro : Option Nat) (hk : ∀ k ∈ ks, k ∈ S.dom)
    (hn : (n.kind = 31 ∧ n = vN n.num ∧ ks = [] ∧ ∀ y ∈ S.dom, (S.node y).kind = 31 → (S.node y).num ≠ n.num) ∨ (n.kind = 32 ∧ n.kids = (ks.length : Int))) (hw : ∀ k ∈ ks, (S.node (S.rep k)).kind = 31 → S.wi (S.rep k) = true) :
    Core (S.add X n ks ro) (upd tr X (n, fo tr ks)) es := by
  have hXk : X ∉ ks := fun hm => hX (hk X hm)
  have ne : ∀ {y}, y ∈ S.dom → y ≠ X := fun hy e => hX (e ▸ hy)
  have rX : S.rep X = X := h.sol.rout X hX
  have rd : ∀ {y}, y ∈ S.dom → S.rep y ∈ S.dom := fun {y} hy => h.sol.rin y hy
  have nd : ∀ {y}, y ∈ S.dom → (S.add X n ks ro).node y = S.node y := fun hy => upd_other _ _ (ne hy)
  have kd : ∀ {y}, y ∈ S.dom → (S.add X n ks ro).kids y = S.kids y := fun hy => upd_other _ _ (ne hy)
  have td : ∀ {y}, y ∈ S.dom → upd tr X (n, fo tr ks) y = tr y := fun hy => upd_other _ _ (ne hy)
  have nX : (S.add X n ks ro).node X = n := upd_same _ _ _
  have kX : (S.add X n ks ro).kids X = ks := upd_same _ _ _
  have tX : upd tr X (n, fo tr ks) X = (n, fo tr ks) := upd_same _ _ _
  have dm : ∀ {y}, y ∈ (S.add X n ks ro).dom → y = X ∨ y ∈ S.dom := fun hy => List.mem_cons.1 hy
  have fod : ∀ {y}, y ∈ S.dom → fo (upd tr X (n, fo tr ks)) (S.kids y) = fo tr (S.kids y) := fun {y} hy => fo_upd _ _ _ _ fun hm => hX (h.ok.kin y hy X hm)
  have ok : ((S.add X n ks ro).gr (upd tr X (n, fo tr ks))).Ok := by
    refine ⟨fun x hx hv => ?_, fun x hx hv => ?_, fun x hx k hk' => ?_, fun x y hx hy hvx hvy e => ?_⟩
    · change upd tr X (n, fo tr ks) x = ((S.add X n ks ro).node x, .nil) ∧ (S.add X n ks ro).node x = vN ((S.add X n ks ro).node x).num ∧ (S.add X n ks ro).kids x = []
      change ((S.add X n ks ro).node x).kind = 31 at hv
      rcases dm hx with rfl | hx
      · rw [nX] at hv ⊢
        rw [tX, kX]
        rcases hn with ⟨_, a, b, _⟩ | ⟨a, _⟩
        · rw [b]; exact ⟨rfl, a, rfl⟩
        · rw [a] at hv; exact absurd hv (by decide)
      · rw [nd hx] at hv ⊢
        rw [td hx, kd hx]
        exact h.ok.var x hx hv
    · change upd tr X (n, fo tr ks) x = ((S.add X n ks ro).node x, fo (upd tr X (n, fo tr ks)) ((S.add X n ks ro).kids x)) ∧ ((S.add X n ks ro).node x).kids = (((S.add X n ks ro).kids x).length : Int) ∧ ((S.add X n ks ro).node x).kind = 32
      change ((S.add X n ks ro).node x).kind ≠ 31 at hv
      rcases dm hx with rfl | hx
      · rw [nX] at hv ⊢
        rw [tX, kX, fo_upd _ _ _ _ hXk]
        rcases hn with ⟨a, _⟩ | ⟨a, b⟩
        · exact absurd a hv
        · exact ⟨rfl, b, a⟩
      · rw [nd hx] at hv ⊢
        rw [td hx, kd hx, fod hx]
        exact h.ok.con x hx hv
    · change k ∈ (S.add X n ks ro).kids x at hk'
      rcases dm hx with rfl | hx
      · rw [kX] at hk'; exact List.mem_cons_of_mem _ (hk k hk')
      · rw [kd hx] at hk'; exact List.mem_cons_of_mem _ (h.ok.kin x hx k hk')
    · change ((S.add X n ks ro).node x).kind = 31 at hvx
      change ((S.add X n ks ro).node y).kind = 31 at hvy
      change ((S.add X n ks ro).node x).num = ((S.add X n ks ro).node y).num at e
      rcases dm hx with rfl | hx'
      · rcases dm hy with rfl | hy'
        · rfl
        · rw [nX] at hvx e
          rw [nd hy'] at hvy e
          rcases hn with ⟨_, _, _, d⟩ | ⟨a, _⟩
          · exact absurd e.symm (d y hy' hvy)
          · rw [a] at hvx; exact absurd hvx (by decide)
      · rcases dm hy with rfl | hy'
        · rw [nX] at hvy e
          rw [nd hx'] at hvx e
          rcases hn with ⟨_, _, _, d⟩ | ⟨a, _⟩
          · exact absurd e (d x hx' hvx)
          · rw [a] at hvy; exact absurd hvy (by decide)
        · rw [nd hx'] at hvx e
          rw [nd hy'] at hvy e
          exact h.ok.uniq x y hx' hy' hvx hvy e
  refine ⟨ok, ⟨fun x hx => ?_, h.sol.rid, fun x hx => h.sol.rout x fun hd => hx (List.mem_cons_of_mem _ hd), by simp, fun s hs => ⟨fun x hx => ?_, by simp⟩, fun x hx hv => ?_, fun x hx hv hv2 => ?_, fun e he => ?_⟩, fun x hx k hk' hv => ?_, fun x hx => ?_⟩
  · rcases dm hx with rfl | hx
    · change S.rep x ∈ (S.add x n ks ro).dom; rw [rX]; exact List.mem_cons_self
    · exact List.mem_cons_of_mem _ (rd hx)
  · change subT s (upd tr X (n, fo tr ks) x) = subT s (upd tr X (n, fo tr ks) (S.rep x))
    rcases dm hx with rfl | hx
    · rw [rX]
    · rw [td hx, td (rd hx)]; exact (h.sol.snd s hs).1 x hx
  · change (S.add X n ks ro).node (S.rep x) = (S.add X n ks ro).node x ∧ ∀ i, Eqv S.rep [] (((S.add X n ks ro).kids x).getD i 0) (((S.add X n ks ro).kids (S.rep x)).getD i 0)
    change ((S.add X n ks ro).node x).kind ≠ 31 at hv
    rcases dm hx with rfl | hx
    · rw [rX]; exact ⟨rfl, fun i c _ _ => rfl⟩
    · rw [nd hx] at hv
      rw [nd hx, nd (rd hx), kd hx, kd (rd hx)]
      exact h.sol.cls x hx hv
  · change ((S.add X n ks ro).node (S.rep x)).num ≤ ((S.add X n ks ro).node x).num
    change ((S.add X n ks ro).node x).kind = 31 at hv
    change ((S.add X n ks ro).node (S.rep x)).kind = 31 at hv2
    rcases dm hx with rfl | hx
    · rw [rX]; exact Int.le_refl _
    · rw [nd hx] at hv
      rw [nd (rd hx)] at hv2
      rw [nd hx, nd (rd hx)]
      exact h.sol.least x hx hv hv2
  · obtain ⟨p, q, hp, hq, e1, e2, e3⟩ := h.sol.done e he
    exact ⟨p, q, List.mem_cons_of_mem _ hp, List.mem_cons_of_mem _ hq, (td hp).trans e1, (td hq).trans e2, e3⟩
  · change k ∈ (S.add X n ks ro).kids x at hk'
    change ((S.add X n ks ro).node (S.rep k)).kind = 31 at hv
    change upd S.wi X false (S.rep k) = true
    have hkd : k ∈ S.dom := by
      rcases dm hx with rfl | hx
      · rw [kX] at hk'; exact hk k hk'
      · rw [kd hx] at hk'; exact h.ok.kin x hx k hk'
    rw [nd (rd hkd)] at hv
    rw [upd_other _ _ (ne (rd hkd))]
    rcases dm hx with rfl | hx
    · rw [kX] at hk'; exact hw k hk' hv
    · rw [kd hx] at hk'; exact h.wk x hx k hk' hv
  · have old : ∀ r, Acc (Ed (S.gr tr) S.rep) r → r ∈ S.dom → Acc (Ed ((S.add X n ks ro).gr (upd tr X (n, fo tr ks))) S.rep) r := by
      intro r hr
      induction hr with
      | intro r _ ih =>
        intro hd
        refine Acc.intro r fun z hz => ?_
        obtain ⟨_, k, hk', rfl⟩ := hz
        change k ∈ (S.add X n ks ro).kids r at hk'
        rw [kd hd] at hk'
        exact ih _ ⟨hd, k, hk', rfl⟩ (rd (h.ok.kin r hd k hk'))
    rcases dm hx with rfl | hx
    · change Acc _ (S.rep x)
      rw [rX]
      refine Acc.intro x fun z hz => ?_
      obtain ⟨_, k, hk', rfl⟩ := hz
      change k ∈ (S.add x n ks ro).kids x at hk'
      rw [kX] at hk'
      exact old _ (h.acc k (hk k hk')) (rd (hk k hk'))
    · exact old _ (h.acc x hx) (rd hx)
/-- What is told of variables changes nothing else. -/
theorem Core.tell {S : SS} {tr : Nat → T} {es : List (T × T)} (h : Core S tr es) (wi : Nat → Bool) (hw : ∀ x, S.wi x = true → wi x = true) : Core { S with wi := wi } tr es :=
  ⟨h.ok, h.sol, fun x hx k hk hv => hw _ (h.wk x hx k hk hv), h.acc⟩
theorem Core.marks {S : SS} {tr : Nat → T} {es : List (T × T)} (h : Core S tr es) (mr : Nat → Int) : Core { S with mr := mr } tr es := ⟨h.ok, h.sol, h.wk, h.acc⟩
/-- In a world. -/
theorem TW.raise {B C : Nat} {w : World} {S : SS} (h : TW B w S) (hC : B ≤ C) (hw : C ≤ w.heap.size) : TW C w S := by
  obtain ⟨y, k⟩ := h
  exact ⟨y, k.lead, k.bin, fun x hx => by
    obtain ⟨h1, kv, h2, h3⟩ := k.blk x hx
    exact ⟨by omega, kv, h2, fun e => ⟨⟨(h3 e).k.1, fun g hg => by have := (h3 e).k.2 g hg; omega⟩, (h3 e).r⟩⟩, k.kin, hw⟩
theorem TW.add {B : Nat} {w : World} {S : SS} (h : TW B w S) {X : Nat} (hX : X ∉ S.dom) (hXB : X < B) (n : Nd) (ks : List Nat) (ro : Option Nat) (hk : ∀ k ∈ ks, k ∈ S.dom) (kv : Value) (hb : w.heap[X]? = some (.cells (tmCells n kv none false 0) 136 (0, 0))) (hkv : KA B w kv ks ro) (rX : S.rep X = X) :
    TW B w (S.add X n ks ro) := by
  obtain ⟨y, k⟩ := h
  have yX := (k.none_iff X).2 rX
  refine ⟨y, k.lead, fun a b e => List.mem_cons_of_mem _ (k.bin a b e), fun x hx => ?_, fun x hx j hj => ?_, k.fit⟩
  · rcases List.mem_cons.1 hx with rfl | hx'
    · exact ⟨hXB, kv, by simp only [SS.add, upd_same, yX]; exact hb, fun _ => by simp only [SS.add, upd_same]; exact hkv⟩
    · have hne : x ≠ X := by rintro rfl; exact hX hx'
      simp only [SS.add, upd_other _ _ hne]
      exact k.blk x hx'
  · rcases List.mem_cons.1 hx with rfl | hx'
    · simp only [SS.add, upd_same] at hj; exact List.mem_cons_of_mem _ (hk j hj)
    · have hne : x ≠ X := by rintro rfl; exact hX hx'
      simp only [SS.add, upd_other _ _ hne] at hj
      exact List.mem_cons_of_mem _ (k.kin x hx' j hj)
end Go.Proofs.YtncifeeinogcnaaGreatDoor
