/- Texts of this seat, one behind the other: TyN, TyR, TyS. -/
import Derived.Test.YtncifeeinogcnaaGreatDoorKn09
import Derived.Maps.OwnSet
import Derived.WalkArith
import Derived.Maps.Views
import Derived.Maps.Ext
import Derived.RegionTactic
/- The contract of solve: the walk. -/
set_option maxRecDepth 100000
namespace Go.Proofs.YtncifeeinogcnaaGreatDoor
open Go.RowKit Go.Lib Go.Proofs.TreeMath

theorem UnP.bool {B pb : Nat} {S : SS} {tr : Nat → T} {bd : List Nat} {op : List (Nat × Nat)} {x y : Nat} {w w' : World} {e : Ending} (h : UnP B pb S tr bd op x y w e w') : ∃ b, e = .returned (.bool b) ∧ Hid (UnP B pb S tr bd op x y w (.returned (.bool b)) w') := by
  have : ∃ b, e = .returned (.bool b) := by
    cases h with
    | same _ he _ _ => exact ⟨_, he⟩
    | gives _ _ _ _ _ h => exact ⟨_, h.1⟩
    | clash _ _ _ he _ => exact ⟨_, he⟩
  obtain ⟨b, rfl⟩ := this
  exact ⟨b, rfl, h⟩
/-- What follows one equation. -/
theorem SR.next {B pb M : Nat} {S : SS} {tr : Nat → T} {es : List (T × T)} {w wr : World} {k : Nat} {rep : Nat → Nat} {wi : Nat → Bool} {bd : List Nat} {op : List (Nat × Nat)} {p q : Nat} (hG : (S.gr tr).Ok) (h : SR B pb M S tr es w k wr rep wi bd (op ++ [(p, q)])) {wz W w2 : World} (hwz : Frm (S.Dp pb) B wr wz)
    (hB : B ≤ wz.heap.size) (hs : SolH B pb { S with rep := rep, wi := wi } bd op wz W) {b : Bool} (hu : UnP B pb { S with rep := rep, wi := wi } tr bd op (rep p) (rep q) W (.returned (.bool b)) w2) :
    (b = true ∧ ∃ j, j < k ∧ SolR B pb M S tr es w j w2) ∨ (b = false ∧ (∀ s, ¬ Un es s) ∧ Frm (S.Dp pb) B w w2) := by
  have hF : Frm (S.Dp pb) B w W := h.fr.trans (hwz.trans (hs.2.mono hB fun _ _ hd => .inl hd))
  have hm := mS_pop (S.gr tr) S.dom rep op (p, q)
  have hle := h.le
  have hbd := h.bd
  cases hu with
  | same e he hs2 hf =>
    simp only [Ending.returned.injEq, Value.bool.injEq] at he
    refine .inl ⟨he, mS (S.gr tr) S.dom rep op, by omega, rep, wi, bd, op, h.lp.pop e, hs2, hF.trans hf, Nat.le_refl _, by omega⟩
  | gives X Y hxy hne hw ut =>
    obtain ⟨he, hs2, hf⟩ := ut
    simp only [Ending.returned.injEq, Value.bool.injEq] at he
    have hXY : (X = rep p ∧ Y = rep q) ∨ (X = rep q ∧ Y = rep p) := hxy
    have ho := h.lp.sol.opin (p, q) (by simp)
    have hY : Y ∈ S.dom := by rcases hXY with ⟨_, rfl⟩ | ⟨_, rfl⟩ <;> exact h.lp.sol.rin _ (by first | exact ho.1 | exact ho.2)
    have rX : rep X = X := by rcases hXY with ⟨rfl, _⟩ | ⟨rfl, _⟩ <;> exact h.lp.sol.rid _
    have rY : rep Y = Y := by rcases hXY with ⟨_, rfl⟩ | ⟨_, rfl⟩ <;> exact h.lp.sol.rid _
    have hm2 := mS_unite (S.gr tr) S.dom rep op (p, q) hY rX rY hne
    have hlb : (bdU (S.gr tr) wi bd X Y).length ≤ bd.length + 1 := by
      unfold bdU
      split
      · simp
      · omega
    refine .inl ⟨he, mS (S.gr tr) S.dom (merge rep X Y) (op ++ (S.kids Y).zip (S.kids X)), ?_, merge rep X Y, wiU (S.gr tr) wi X Y, bdU (S.gr tr) wi bd X Y, _, h.lp.unite hG hXY hne hw, hs2, hF.trans hf, Nat.le_refl _, ?_⟩
    · have : mS (S.gr tr) S.dom (merge rep X Y) (op ++ (S.kids Y).zip (S.kids X)) + 2 ≤ mS (S.gr tr) S.dom rep (op ++ [(p, q)]) := hm2
      omega
    · have : mS (S.gr tr) S.dom (merge rep X Y) (op ++ ((S.gr tr).kids Y).zip ((S.gr tr).kids X)) + 2 ≤ mS (S.gr tr) S.dom rep (op ++ [(p, q)]) := hm2
      omega
  | clash h1 h2 hn he hf =>
    simp only [Ending.returned.injEq, Value.bool.injEq] at he
    exact .inr ⟨he, h.lp.sol.fail hG h1 h2 hn, hF.trans hf⟩
theorem SolH.root2 {B pb : Nat} {S : SS} {bd : List Nat} {op : List (Nat × Nat)} {w0 w w' : World} (k1 : TW B w' S) (k2 : Frm S.D w.heap.size w w') (h : SolH B pb S bd op w0 w) : SolH B pb S bd op w0 w' := h.root (r := 0) (e := .returned (pv 0)) ⟨rfl, k1, k2⟩
theorem alloc_top (w : World) (o : Obj) : (w.alloc o).heap[w.heap.size]? = some o := by show (w.heap.push o)[w.heap.size]? = _; simp
set_option maxHeartbeats 4000000 in
theorem solve_any (B pb M : Nat) (S : SS) (tr : Nat → T) (es : List (T × T)) (a b : Nat) (w : World) (hG : (S.gr tr).Ok) (hT : TW B w S) (hp : w.heap[pb]? = some (.cells #[.slice none 0 0, .slice none 0 0] 128 (0, 0)))
    (hsol : Sol (S.gr tr) es S.rep [(a, b)]) (hM : mS (S.gr tr) S.dom S.rep [(a, b)] ≤ M) (hM9 : M ≤ 100000001) :
    Calls Tryz.prog 79 #[pv pb, .agg #[pv a, pv b]] w (SolP B pb S tr es w) := by
  have hBw := hT.fit
  have hpl : pb < w.heap.size := (Array.getElem?_eq_some_iff.1 hp).1
  have p0 := cell_of_heap hp 0
  have f0 := frozen_of_heap hp 0
  simp only [List.getElem?_toArray, List.getElem?_cons_zero] at p0
  -- the first equation
  have START : Hid (∀ W1, W1 = ((w.alloc (.cells #[.pointer (some ⟨a, 0, none⟩), .pointer (some ⟨b, 0, none⟩)] 132)).alloc (.cells #[.pointer (some ⟨a, 0, none⟩), .pointer (some ⟨b, 0, none⟩)] 132)) → SolR B pb M S tr es w (mS (S.gr tr) S.dom S.rep [(a, b)]) (W1.setCell ⟨pb, 0, none⟩ (.slice (some ⟨w.heap.size + 1, 0, none⟩) 1 1))) := Lib.hid fun W1 hW => by
    have b1 : Below w.heap.size w W1 := by rw [hW]; exact below2 w _ _
    have hp1 := (b1.block pb hpl).trans hp
    have hg1 : W1.heap[w.heap.size + 1]? = some (.cells #[.pointer (some ⟨a, 0, none⟩), .pointer (some ⟨b, 0, none⟩)] 132 (0, 0)) := by
      rw [hW]
      have := alloc_top (w.alloc (.cells #[.pointer (some ⟨a, 0, none⟩), .pointer (some ⟨b, 0, none⟩)] 132)) (.cells #[.pointer (some ⟨a, 0, none⟩), .pointer (some ⟨b, 0, none⟩)] 132)
      rw [show (w.alloc (.cells #[.pointer (some ⟨a, 0, none⟩), .pointer (some ⟨b, 0, none⟩)] 132)).heap.size = w.heap.size + 1 by simp] at this
      exact this
    refine ⟨S.rep, S.wi, [], [(a, b)], Lp.begin hsol, ⟨(hT.below (b1.mono hBw)).frm1 hp1 (Frm.one (Below.refl _ _) 0 _), _, .slice none 0 0, by rw [set_blk hp1]; rfl, ⟨by simp [eqCells], .inr ⟨w.heap.size + 1, 1, _, rfl, by omega, by rw [Below.heap_setCell _ _ _ _ (by show w.heap.size + 1 ≠ pb; omega)]; exact hg1, by simp, by unfold maxLen; omega, by simp, by simp [eqCells, pv]⟩⟩, World.ownsRow_nil _ _ _ _⟩, (Frm.of_below (b1.mono hBw)).setCell (x := pb) (i := 0) (.inr rfl) _, Nat.le_refl _, by simpa using hM⟩
  have f1 : ((w.alloc (.cells #[.pointer (some ⟨a, 0, none⟩), .pointer (some ⟨b, 0, none⟩)] 132)).alloc (.cells #[.pointer (some ⟨a, 0, none⟩), .pointer (some ⟨b, 0, none⟩)] 132)).frozen? ⟨pb, 0, none⟩ = false := ((below2 w _ _).frozen (p := ⟨pb, 0, none⟩) hpl).trans f0
  have c1 : ((w.alloc (.cells #[.pointer (some ⟨a, 0, none⟩), .pointer (some ⟨b, 0, none⟩)] 132)).alloc (.cells #[.pointer (some ⟨a, 0, none⟩), .pointer (some ⟨b, 0, none⟩)] 132)).cell? ⟨pb, 0, none⟩ = some (.slice none 0 0) := ((below2 w _ _).cell (p := ⟨pb, 0, none⟩) hpl).trans p0
  have HM9 := Lib.hid hM9
  clear hT hp hsol hM p0 f0 hM9
  unfold pv
  go_enter Tryz.func79, Tryz.ntmps79
  go_wp2
  go_loopg [] (mS (S.gr tr) S.dom S.rep [(a, b)]) (fun k wr => SolR B pb M S tr es w k wr)
  case atStart =>
    have s := START.out _ rfl
    rw [World.setCell_alloc_past _ _ _ _ (by simp; omega), World.setCell_alloc_past _ _ _ _ hpl] at s
    exact s
  case round =>
    clear START f1 c1
    obtain ⟨rep, wi, bd, op, h⟩ := hrel
    rcases List.eq_nil_or_concat op with rfl | ⟨op', ⟨p, q⟩, rfl⟩
    · obtain ⟨ov, bv, hp, ho, _⟩ := h.sv.ex
      obtain ⟨qo, co, rfl⟩ := row_form ho
      have p0 := cell_of_heap hp 0
      simp only [List.getElem?_toArray, List.getElem?_cons_zero, List.length_nil] at p0
      have E : Hid (SolP B pb S tr es w (.returned (.bool true)) wr) := .yes rep wi bd rfl h.lp h.sv h.fr (by have := h.bd; have := HM9.out; omega)
      clear h hp ho
      go_wp2
      go_ret
      exact E.out
    · rw [List.concat_eq_append] at h
      obtain ⟨g, co, bv, hp, hgl, hBg, hnc, hcm, k0, k1, hcut⟩ := h.sv.cut
      obtain ⟨n, hn⟩ : ∃ n, n = op'.length := ⟨_, rfl⟩
      rw [← hn] at hp hnc k0 k1 hcut
      have hpl : pb < wr.heap.size := (Array.getElem?_eq_some_iff.1 hp).1
      have p0 := cell_of_heap hp 0
      have f0 := frozen_of_heap hp 0
      simp only [List.getElem?_toArray, List.getElem?_cons_zero] at p0
      have hn9 : n ≤ 1000000000 := by
        have := h.bd
        have := HM9.out
        have := mS_pop (S.gr tr) S.dom rep op' (p, q)
        unfold mS at this
        unfold mS at *
        rw [List.length_append, List.length_singleton] at *
        omega
      have hcm9 : co ≤ 9223372036854775807 := by unfold maxLen at hcm; omega
      have b1 : Below wr.heap.size wr (wr.alloc (.cells #[.pointer (some ⟨p, 0, none⟩), .pointer (some ⟨q, 0, none⟩)] 132)) := (Below.refl _ _).alloc (Nat.le_refl _) _
      have p1 := (b1.cell (p := ⟨pb, 0, none⟩) hpl).trans p0
      have f1 := (b1.frozen (p := ⟨pb, 0, none⟩) hpl).trans f0
      have NB : Hid (B ≤ wr.heap.size) := Lib.hid h.sv.tw.fit
      have SVZ : Hid (∀ wz, wz = (wr.alloc (.cells #[.pointer (some ⟨p, 0, none⟩), .pointer (some ⟨q, 0, none⟩)] 132)).setCell ⟨pb, 0, none⟩ (.slice (some ⟨g, 0, none⟩) n co) → SV B pb wz { S with rep := rep, wi := wi } bd op' ∧ Frm (S.Dp pb) B wr wz ∧ B ≤ wz.heap.size ∧ wz.cell? ⟨wr.heap.size, 0, none⟩ = some (.pointer (some ⟨p, 0, none⟩)) ∧ wz.cell? ⟨wr.heap.size, 1, none⟩ = some (.pointer (some ⟨q, 0, none⟩))) := Lib.hid fun wz hwz => by
        have hs := hcut _ b1
        rw [← hwz] at hs
        have ht := alloc_top wr (.cells #[.pointer (some ⟨p, 0, none⟩), .pointer (some ⟨q, 0, none⟩)] 132)
        have ht2 : wz.heap[wr.heap.size]? = some (.cells #[.pointer (some ⟨p, 0, none⟩), .pointer (some ⟨q, 0, none⟩)] 132 (0, 0)) := by
          rw [hwz, Below.heap_setCell _ _ _ _ (by show wr.heap.size ≠ pb; omega)]; exact ht
        refine ⟨hs, ?_, hs.tw.fit, cell_of_heap ht2 0, cell_of_heap ht2 1⟩
        rw [hwz]
        exact (Frm.of_below (b1.mono NB.out)).setCell (x := pb) (i := 0) (.inr rfl) _
      have hpq := h.lp.sol.opin (p, q) (by simp)
      have hrp := h.lp.sol.rin p hpq.1
      have hrq := h.lp.sol.rin q hpq.2
      have HPQ := Lib.hid hpq
      have GN := Lib.hid hG
      have H := Lib.hid h
      have HN := Lib.hid hn
      have LX : Hid (∀ z, z ∈ S.dom → rep z = z → op'.length + (S.kids z).length ≤ 1000000000) := Lib.hid fun z hz rz => by
        have e1 := h.bd
        have e2 := HM9.out
        unfold mS at e1
        rw [List.length_append, List.length_singleton] at e1
        have e3 : 1 + (S.kids z).length ≤ wt (S.gr tr) S.dom (fun x => decide (rep x = x)) := by
          have := wt_lt (S.gr tr) S.dom (fun x => decide (rep x = x)) (fun _ => false) (fun _ hh => by simp at hh) z hz (decide_eq_true rz) rfl
          have e : ((S.gr tr).kids z).length = (S.kids z).length := rfl
          omega
        omega
      have LB : Hid (bd.length + 1 ≤ 1000000000) := Lib.hid (by have := h.bd; have := HM9.out; omega)
      have ROOT : Hid (∀ x W, x ∈ S.dom → TW B W { S with rep := rep, wi := wi } → Calls Tryz.prog 58 #[.pointer (some ⟨x, 0, none⟩)] W (RootP B { S with rep := rep, wi := wi } (rep x) W)) := Lib.hid fun x W hx hT => root_any B { S with rep := rep, wi := wi } x W hx hT
      have UNI : Hid (∀ W, SV B pb W { S with rep := rep, wi := wi } bd op' → Calls Tryz.prog 114 #[.pointer (some ⟨pb, 0, none⟩), .pointer (some ⟨rep p, 0, none⟩), .pointer (some ⟨rep q, 0, none⟩)] W (fun e w' => ∃ b, e = .returned (.bool b) ∧ Hid (UnP B pb { S with rep := rep, wi := wi } tr bd op' (rep p) (rep q) W (.returned (.bool b)) w'))) := Lib.hid fun W hV =>
        (unite_any B pb { S with rep := rep, wi := wi } tr bd op' (rep p) (rep q) W hV hG hrp hrq (h.lp.sol.rid p) (h.lp.sol.rid q) (LX.out _ hrp (h.lp.sol.rid p)) (LX.out _ hrq (h.lp.sol.rid q)) LB.out).mono fun e w' hu => hu.bool
      clear hpq hrp hrq h hn hp hgl hBg hcm hcut b1 hpl
      unfold pv at k0 k1
      go_wp2
      obtain ⟨wz, hwz⟩ : ∃ wz, wz = (wr.alloc (.cells #[.pointer (some ⟨p, 0, none⟩), .pointer (some ⟨q, 0, none⟩)] 132)).setCell ⟨pb, 0, none⟩ (.slice (some ⟨g, 0, none⟩) n co) := ⟨_, rfl⟩
      obtain ⟨sz, fz, bz, z0, z1⟩ := SVZ.out wz hwz
      rw [← hwz]
      have hs0 : SolH B pb { S with rep := rep, wi := wi } bd op' wz wz := ⟨sz, Frm.refl _ _ _⟩
      have hsd : SolH B pb { S with rep := rep, wi := wi } bd op' wz wz.drew := hs0.below (Below.refl _ _).drew
      have FZ := Lib.hid fz
      have BZ := Lib.hid bz
      have Z0 := Lib.hid z0
      have Z1 := Lib.hid z1
      have NEXT : Hid (∀ W b w2, SolH B pb { S with rep := rep, wi := wi } bd op' wz W → UnP B pb { S with rep := rep, wi := wi } tr bd op' (rep p) (rep q) W (.returned (.bool b)) w2 → (b = true ∧ ∃ j, j < gk ∧ SolR B pb M S tr es w j w2) ∨ (b = false ∧ (∀ s, ¬ Un es s) ∧ Frm (S.Dp pb) B w w2)) := Lib.hid fun W b w2 h1 h2 => H.out.next GN.out FZ.out BZ.out h1 h2
      clear sz fz bz hwz
      go_region_with (first
        | (go_at_call 58; (with_reducible refine Calls.mono (ROOT.out _ _ ?_ ?_) ?_); (first | exact HPQ.out.1 | exact HPQ.out.2); (exact (SolH.below (B := B) (pb := pb) (by assumption) (Below.refl _ _)).1.tw); rintro e w1 hR; obtain ⟨rfl, hr1, hr2⟩ := hR; have hs1 : SolH B pb { S with rep := rep, wi := wi } bd op' wz w1 := SolH.root2 hr1 hr2 (by assumption); have e0 := hs1.cellb Z0.out NB.out; have e1 := hs1.cellb Z1.out NB.out; clear hr1 hr2; unfold pv)
        | (go_at_call 114; (with_reducible refine Calls.mono (UNI.out _ ?_) ?_); (exact (SolH.below (B := B) (pb := pb) (by assumption) (Below.refl _ _)).1); rintro e w2 hU; obtain ⟨b, rfl, hU⟩ := hU; have FIN := Lib.hid (NEXT.out _ _ _ (by assumption) hU.out); clear hU))
      all_goals
        rcases FIN.out with ⟨rfl, j, hj, hr⟩ | ⟨rfl, hno, hfr⟩
        · have R := Lib.hid hr
          clear hr FIN
          go_wp2
          go_roundg j
          case measure => exact hj
          case rel => exact R.out
        · have E : Hid (SolP B pb S tr es w (.returned (.bool false)) w2) := .no rfl hno hfr
          clear hno hfr FIN
          go_wp2
          go_ret
          exact E.out
end Go.Proofs.YtncifeeinogcnaaGreatDoor
/- A store in a world. -/
set_option maxRecDepth 100000
namespace Go.Proofs.YtncifeeinogcnaaGreatDoor
open Go.RowKit Go.Lib Go.Maps Go.Proofs.TreeMath

abbrev DM := DataW Unit
/-- How a term's address reads in a map. -/
def PE : Value → Option (DM × List MemPlace)
  | .pointer none => some (.nil, [])
  | .pointer (some a) => if a = ⟨a.block, 0, none⟩ then some (.lit (.int .i64 (a.block : Int)), []) else none
  | _ => none
theorem PE_pv (b : Nat) : PE (pv b) = some (.lit (.int .i64 (b : Int)), []) := by simp [PE, pv]
theorem PE_inv {v : Value} {b : Nat} {ps : List MemPlace} (h : PE v = some (.lit (.int .i64 (b : Int)), ps)) : v = pv b := by
  cases v <;> simp [PE] at h
  rename_i a
  cases a with
  | none => simp at h
  | some a =>
    simp only [Option.ite_none_right_eq_some, Option.some.injEq, Prod.mk.injEq, DataW.lit.injEq, Lit.int.injEq, true_and] at h
    obtain ⟨h1, h2, _⟩ := h
    rw [h1]
    have : a.block = b := by omega
    rw [this]; rfl
theorem PE_nil {v : Value} {ps : List MemPlace} (h : PE v = some (.nil, ps)) : v = .pointer none := by
  cases v <;> simp [PE] at h
  rename_i a
  cases a with
  | none => rfl
  | some a => simp at h
theorem law2 : Keyed Tryz.prog 2 := int_keyed Tryz.underlying2
def kI (v : Int) : Lit := .int .i64 v
theorem key2 (v : Int) (h0 : -9223372036854775808 ≤ v) (h1 : v ≤ 9223372036854775807) : keyOf Tryz.prog 2 (.int .i64 v) = some (kI v) := keyOf_int_mk Tryz.underlying2 (by simp [Lit.wf, IntKind.min, IntKind.max, IntKind.signed, IntKind.bits]; omega)
theorem zero79 (w : World) : (zeroValue 93).run Tryz.prog w = .ok (.pointer none) w := by kernel_rfl
theorem kI_inj {a b : Int} (h : kI a = kI b) : a = b := by unfold kI at h; injection h
theorem kI_key (a : Int) : WideAt.IsKeyLit (kI a) := trivial
def wa (S : SS) : Nat := (S.dom.map fun x => 1 + (S.kids x).length).sum
theorem wt_wa (S : SS) (tr : Nat → T) (p : Nat → Bool) : wt (S.gr tr) S.dom p ≤ wa S := by
  have : wa S = wt (S.gr tr) S.dom (fun _ => true) := by unfold wa wt; simp; rfl
  rw [this]
  exact wt_le _ _ _ _ fun _ _ => rfl
theorem wa_add (S : SS) {X : Nat} (hX : X ∉ S.dom) (n : Nd) (ks : List Nat) (ro : Option Nat) : wa (S.add X n ks ro) = 1 + ks.length + wa S := by
  unfold wa SS.add
  simp only [List.map_cons, List.sum_cons, upd_same]
  congr 2
  refine List.map_congr_left fun x hx => ?_
  rw [upd_other]
  rintro rfl; exact hX hx
structure ST (B : Nat) (w : World) (S : SS) (tr : Nat → T) (es : List (T × T)) (sb mb n : Nat) (D : DM) (nx mrk : Int) : Prop where
  core : Core S tr es
  tw : TW B w S
  sbk : w.heap[sb]? = some (.cells #[.int .i64 nx, .map (some mb), .int .i64 mrk] 95 (0, 0))
  map : w.ownsMap Tryz.prog 2 PE mb n D
  bnd : sb < B ∧ mb < B
  key : ∀ x ∈ S.dom, (S.node x).kind = 31 → has D (kI (S.node x).num) = true ∧ D.atKey (kI (S.node x).num) .nil = .lit (.int .i64 (x : Int))
  only : ∀ v, has D (kI v) = true → ∃ x ∈ S.dom, S.node x = vN v
  mle : ∀ x ∈ S.dom, S.mr x ≤ mrk
  pos : 0 ≤ mrk
  rng : ∀ x ∈ S.dom, (S.node x).kind = 31 → 0 ≤ (S.node x).num ∧ (S.node x).num ≤ 1048576
def DB (S : SS) (mb : Nat) (k : Nat) : Prop := k ∈ S.dom ∨ k = mb
structure Gro (w : World) (S : SS) (tr : Nat → T) (S' : SS) (tr' : Nat → T) : Prop where
  dom : ∀ x ∈ S.dom, x ∈ S'.dom
  new : ∀ x ∈ S'.dom, x ∈ S.dom ∨ w.heap.size ≤ x
  tr : ∀ x ∈ S.dom, tr' x = tr x
  node : ∀ x ∈ S.dom, S'.node x = S.node x
  rep : S'.rep = S.rep
  wi : ∀ x ∈ S.dom, S.wi x = true → S'.wi x = true
  row : ∀ x ∈ S'.dom, (x ∈ S.dom ∧ S'.row x = S.row x) ∨ ∀ g, S'.row x = some g → w.heap.size ≤ g
theorem Gro.refl (w : World) (S : SS) (tr : Nat → T) : Gro w S tr S tr := ⟨fun _ h => h, fun _ h => .inl h, fun _ _ => rfl, fun _ _ => rfl, rfl, fun _ _ h => h, fun _ h => .inl ⟨h, rfl⟩⟩
theorem Gro.trans {w w1 : World} {S S1 S2 : SS} {tr tr1 tr2 : Nat → T} (h : Gro w S tr S1 tr1) (k : Gro w1 S1 tr1 S2 tr2) (hw : w.heap.size ≤ w1.heap.size) : Gro w S tr S2 tr2 :=
  ⟨fun x hx => k.dom x (h.dom x hx), fun x hx => by
    rcases k.new x hx with e | e
    · exact h.new x e
    · exact .inr (by omega), fun x hx => (k.tr x (h.dom x hx)).trans (h.tr x hx), fun x hx => (k.node x (h.dom x hx)).trans (h.node x hx), k.rep.trans h.rep, fun x hx e => k.wi x (h.dom x hx) (h.wi x hx e), fun x hx => by
    rcases k.row x hx with ⟨e1, e2⟩ | e
    · rcases h.row x e1 with ⟨e3, e4⟩ | e5
      · exact .inl ⟨e3, e2.trans e4⟩
      · exact .inr fun g hg => e5 g (e2.symm.trans hg)
    · exact .inr fun g hg => by have := e g hg; omega⟩
/-- The rest stays. -/
theorem ST.frm {B : Nat} {w w' : World} {S : SS} {tr : Nat → T} {es : List (T × T)} {sb mb n : Nat} {D : DM} {nx mrk : Int} (h : ST B w S tr es sb mb n D nx mrk) (b : Below B w w') : ST B w' S tr es sb mb n D nx mrk := by
  refine ⟨h.core, h.tw.below b, (b.block sb h.bnd.1).trans h.sbk, ?_, h.bnd, h.key, h.only, h.mle, h.pos, h.rng⟩
  obtain ⟨es', cl, hb, r⟩ := h.map
  exact ⟨es', cl, (b.block mb h.bnd.2).trans hb, r⟩
theorem ST.raise {B C : Nat} {w : World} {S : SS} {tr : Nat → T} {es : List (T × T)} {sb mb n : Nat} {D : DM} {nx mrk : Int} (h : ST B w S tr es sb mb n D nx mrk) (hC : B ≤ C) (hw : C ≤ w.heap.size) : ST C w S tr es sb mb n D nx mrk :=
  ⟨h.core, h.tw.raise hC hw, h.sbk, h.map, ⟨by have := h.bnd; omega, by have := h.bnd; omega⟩, h.key, h.only, h.mle, h.pos, h.rng⟩
theorem map_ne {w : World} {mb n : Nat} {D : DM} (h : w.ownsMap Tryz.prog 2 PE mb n D) {k : Nat} {cs : Array Value} {T : TypeId} {fz : Nat × Nat} (hk : w.heap[k]? = some (.cells cs T fz)) : k ≠ mb := by
  rintro rfl
  obtain ⟨es, cl, hb, _⟩ := h
  rw [hk] at hb; simp at hb
/-- What is not a store's changes. -/
theorem ST.other {B : Nat} {w w' : World} {S : SS} {tr : Nat → T} {es : List (T × T)} {sb mb n : Nat} {D : DM} {nx mrk : Int} (h : ST B w S tr es sb mb n D nx mrk) (hB : B ≤ w'.heap.size)
    (hk : ∀ k, k < B → (k ∈ S.dom ∨ k = sb ∨ k = mb ∨ ∃ x ∈ S.dom, S.rep x = x ∧ S.row x = some k) → w'.heap[k]? = w.heap[k]?) : ST B w' S tr es sb mb n D nx mrk := by
  refine ⟨h.core, ?_, (hk sb h.bnd.1 (.inr (.inl rfl))).trans h.sbk, ?_, h.bnd, h.key, h.only, h.mle, h.pos, h.rng⟩
  · obtain ⟨y, k⟩ := h.tw
    refine ⟨y, k.lead, k.bin, fun x hx => ?_, k.kin, hB⟩
    obtain ⟨h1, kv, h2, h3⟩ := k.blk x hx
    exact ⟨h1, kv, (hk x h1 (.inl hx)).trans h2, fun e => (h3 e).of_block fun g hg => hk g ((h3 e).k.2 g hg) (.inr (.inr (.inr ⟨x, hx, (k.none_iff x).1 e, by rw [← (h3 e).r]; exact hg⟩)))⟩
  · obtain ⟨es', cl, hb, r⟩ := h.map
    exact ⟨es', cl, (hk mb h.bnd.2 (.inr (.inr (.inl rfl)))).trans hb, r⟩
/-- What a look-up in a store's map gives. -/
theorem ST.look {B : Nat} {w : World} {S : SS} {tr : Nat → T} {es : List (T × T)} {sb mb n : Nat} {D : DM} {nx mrk : Int} (h : ST B w S tr es sb mb n D nx mrk) (v : Int) (h0 : -9223372036854775808 ≤ v) (h1 : v ≤ 9223372036854775807) (w' : World) (hw : w'.heap[mb]? = w.heap[mb]?) :
    (∃ x ∈ S.dom, S.node x = vN v ∧ (Instr.lookup 92 (.map (some mb)) (.int .i64 v) true).run Tryz.prog w' = .ok (.tuple #[.pointer (some ⟨x, 0, none⟩), .bool true]) w') ∨
    ((∀ x ∈ S.dom, S.node x ≠ vN v) ∧ has D (kI v) = false ∧ (Instr.lookup 92 (.map (some mb)) (.int .i64 v) true).run Tryz.prog w' = .ok (.tuple #[.pointer none, .bool false]) w') := by
  have hm : w'.ownsMap Tryz.prog 2 PE mb n D := by
    obtain ⟨es', cl, hb, r⟩ := h.map
    exact ⟨es', cl, hw.trans hb, r⟩
  obtain ⟨u, ps, hr, hu⟩ := hm.look_ok law2 Tryz.underlying92 (zero79 w') (zd := .nil) (zp := []) rfl (key2 v h0 h1)
  cases hh : has D (kI v) with
  | true =>
    obtain ⟨x, hx, hn⟩ := h.only v hh
    have hk := (h.key x hx (by rw [hn]; rfl)).2
    rw [hn] at hk
    rw [show D.atKey (kI v) .nil = _ from hk] at hu
    obtain rfl := PE_inv hu
    rw [hh] at hr
    exact .inl ⟨x, hx, hn, hr⟩
  | false =>
    rw [atKey_of_not_has hh] at hu
    obtain rfl := PE_nil hu
    rw [hh] at hr
    refine .inr ⟨fun x hx hn => ?_, rfl, hr⟩
    have := (h.key x hx (by rw [hn]; rfl)).1
    rw [hn] at this
    rw [show has D (kI v) = true from this] at hh
    exact absurd hh (by decide)
inductive VarP (B : Nat) (S : SS) (tr : Nat → T) (es : List (T × T)) (sb mb n : Nat) (nx mrk v : Int) (w : World) (e : Ending) (w' : World) : Prop
  | mk (S' : SS) (tr' : Nat → T) (x n' : Nat) (D' : DM) (he : e = .returned (pv x)) (st : ST w'.heap.size w' S' tr' es sb mb n' D' nx mrk) (hx : x ∈ S'.dom) (ht : tr' x = vT v) (gr : Gro w S tr S' tr') (fr : Frm (DB S mb) w.heap.size w w') (hw : wa S' ≤ wa S + 1) (hn : n' ≤ n + 1)
end Go.Proofs.YtncifeeinogcnaaGreatDoor
/- The contract of the store's variable. -/
set_option maxRecDepth 100000
namespace Go.Proofs.YtncifeeinogcnaaGreatDoor
open Go.RowKit Go.Lib Go.Maps Go.Proofs.TreeMath

theorem heap_drewN (w : World) (n : Nat) : (w.drewN n).heap = w.heap := rfl
theorem ST.addVar {B : Nat} {w w2 : World} {S : SS} {tr : Nat → T} {es : List (T × T)} {sb mb n : Nat} {D : DM} {nx mrk : Int} (h : ST B w S tr es sb mb n D nx mrk) {v : Int} (hv : 0 ≤ v ∧ v ≤ 1048576) {X : Nat} (hX : w.heap.size ≤ X) (hXl : X < w2.heap.size)
    (hno : ∀ x ∈ S.dom, S.node x ≠ vN v) (hfr : ∀ k, k < w.heap.size → k ≠ mb → w2.heap[k]? = w.heap[k]?) (_hsz : w.heap.size ≤ w2.heap.size)
    (hXb : w2.heap[X]? = some (.cells (tmCells (vN v) (.slice none 0 0) none false 0) 136 (0, 0))) (hm : w2.ownsMap Tryz.prog 2 PE mb (n + 1) (D.put (kI v) (.lit (.int .i64 (X : Int))))) :
    ST w2.heap.size w2 (S.add X (vN v) [] none) (upd tr X (vT v)) es sb mb (n + 1) (D.put (kI v) (.lit (.int .i64 (X : Int)))) nx mrk := by
  have hXd : X ∉ S.dom := fun hd => by have := (h.tw.blk hd).1; have := h.tw.fit; omega
  have hBw := h.tw.fit
  have isM : IsMap D := h.map.isMap
  have tw2 : TW B w2 S := by
    obtain ⟨y, k⟩ := h.tw
    refine ⟨y, k.lead, k.bin, fun x hx => ?_, k.kin, by omega⟩
    obtain ⟨h1, kv, h2, h3⟩ := k.blk x hx
    refine ⟨h1, kv, by rw [hfr x (by omega) (map_ne h.map h2)]; exact h2, fun e => (h3 e).of_block fun g hg => ?_⟩
    obtain ⟨cur, hc⟩ := (h3 e).ty hg
    exact hfr g (by have := (h3 e).k.2 g hg; omega) (map_ne h.map hc)
  have nv : ∀ y ∈ S.dom, (S.node y).kind = 31 → (S.node y).num ≠ v := fun y hy hk e => hno y hy (by
    have := (h.core.ok.var y hy hk).2.1
    rw [show S.node y = vN (S.node y).num from this, e])
  have ne : ∀ {y}, y ∈ S.dom → y ≠ X := fun hy e => hXd (e ▸ hy)
  refine ⟨h.core.add hXd (vN v) [] none (by simp) (.inl ⟨rfl, rfl, rfl, nv⟩) (by simp), (tw2.raise (by omega) (Nat.le_refl _)).add hXd hXl (vN v) [] none (by simp) (.slice none 0 0) hXb ⟨⟨World.ownsRow_nil _ _ _ _, by simp [Value.ownBlock]⟩, rfl⟩ (h.core.sol.rout X hXd), ?_, hm, ⟨by have := h.bnd; omega, by have := h.bnd; omega⟩, fun x hx hk => ?_, fun u hu => ?_, fun x hx => ?_, h.pos, fun x hx hk => ?_⟩
  · rw [hfr sb (by have := h.bnd; omega) (map_ne h.map h.sbk)]; exact h.sbk
  · rcases List.mem_cons.1 hx with rfl | hx'
    · simp only [SS.add, upd_same]
      exact ⟨has_put_same isM (kI_key _) _, atKey_put_same isM (kI_key _) _ _⟩
    · simp only [SS.add, upd_other _ _ (ne hx')] at hk ⊢
      have hne : kI (S.node x).num ≠ kI v := fun e => nv x hx' hk (kI_inj e)
      rw [has_put_other hne, atKey_put_other hne]
      exact h.key x hx' hk
  · by_cases e : u = v
    · subst e
      exact ⟨X, List.mem_cons_self, by simp only [SS.add, upd_same]⟩
    · rw [has_put_other (fun e2 => e (kI_inj e2))] at hu
      obtain ⟨x, hx, hn⟩ := h.only u hu
      exact ⟨x, List.mem_cons_of_mem _ hx, by simp only [SS.add, upd_other _ _ (ne hx)]; exact hn⟩
  · rcases List.mem_cons.1 hx with rfl | hx'
    · simp only [SS.add, upd_same]; exact h.pos
    · simp only [SS.add, upd_other _ _ (ne hx')]; exact h.mle x hx'
  · rcases List.mem_cons.1 hx with rfl | hx'
    · simp only [SS.add, upd_same]; exact hv
    · simp only [SS.add, upd_other _ _ (ne hx')] at hk ⊢; exact h.rng x hx' hk
theorem gro_add (w : World) (S : SS) (tr : Nat → T) {X : Nat} (hX : w.heap.size ≤ X) (hXd : X ∉ S.dom) (n : Nd) (ks : List Nat) (ro : Option Nat) (hro : ∀ g, ro = some g → w.heap.size ≤ g) (t : T) : Gro w S tr (S.add X n ks ro) (upd tr X t) := by
  have ne : ∀ {y}, y ∈ S.dom → y ≠ X := fun hy e => hXd (e ▸ hy)
  refine ⟨fun x hx => List.mem_cons_of_mem _ hx, fun x hx => ?_, fun x hx => upd_other _ _ (ne hx), fun x hx => upd_other _ _ (ne hx), rfl, fun x hx e => by simp only [SS.add, upd_other _ _ (ne hx)]; exact e, fun x hx => by
    rcases List.mem_cons.1 hx with rfl | h
    · exact .inr fun g hg => hro g (by simpa only [SS.add, upd_same] using hg)
    · exact .inl ⟨h, by simp only [SS.add, upd_other _ _ (ne h)]⟩⟩
  rcases List.mem_cons.1 hx with rfl | h
  · exact .inr hX
  · exact .inl h
set_option maxHeartbeats 4000000 in
theorem var_any (B : Nat) (S : SS) (tr : Nat → T) (es : List (T × T)) (sb mb n : Nat) (D : DM) (nx mrk v : Int) (w : World) (h : ST B w S tr es sb mb n D nx mrk) (hv : 0 ≤ v ∧ v ≤ 1048576) (hn : n ≤ 1000000000) :
    Calls Tryz.prog 116 #[pv sb, (vN v).val] w (VarP B S tr es sb mb n nx mrk v w) := by
  have hsl : sb < w.heap.size := (Array.getElem?_eq_some_iff.1 h.sbk).1
  have hml : mb < w.heap.size := h.map.lt
  have c1 := cell_of_heap h.sbk 1
  simp only [List.getElem?_toArray, List.getElem?_cons_succ, List.getElem?_cons_zero] at c1
  have ba : Below w.heap.size w (w.alloc (.cells #[.int .i64 31, .string ⟨#[]⟩, .int .i64 v, .int .i64 0] 58)) := (Below.refl _ _).alloc (Nat.le_refl _) _
  have c1a := (ba.cell (p := ⟨sb, 1, none⟩) hsl).trans c1
  obtain ⟨hv0, hv1⟩ := hv
  have H := Lib.hid h
  unfold pv Nd.val vN
  simp only
  rcases h.look v (by omega) (by omega) (w.alloc (.cells #[.int .i64 31, .string ⟨#[]⟩, .int .i64 v, .int .i64 0] 58)).drew (ba.block mb hml) with ⟨x, hx, hnx, hl⟩ | ⟨hno, hh, hl⟩
  · have E : Hid (VarP B S tr es sb mb n nx mrk v w (.returned (.pointer (some ⟨x, 0, none⟩))) (w.alloc (.cells #[.int .i64 31, .string ⟨#[]⟩, .int .i64 v, .int .i64 0] 58)).drew) := by
      have hk : (S.node x).kind = 31 := by rw [hnx]; rfl
      have ht : tr x = (S.node x, .nil) := (h.core.ok.var x hx hk).1
      have hf := (h.frm (ba.drew.mono h.tw.fit)).raise (C := (w.alloc (.cells #[.int .i64 31, .string ⟨#[]⟩, .int .i64 v, .int .i64 0] 58)).drew.heap.size) (by have := h.tw.fit; have := ba.size; exact Nat.le_trans h.tw.fit ba.size) (Nat.le_refl _)
      exact .mk S tr x n D rfl hf hx (by rw [ht, hnx]; rfl) (Gro.refl _ _ _) (Frm.of_below ba.drew) (Nat.le_succ _) (Nat.le_succ _)
    clear h hx hnx H hsl hml
    go_enter Tryz.func116, Tryz.ntmps116
    go_wp2
    go_region
    all_goals
      go_wp2
      go_ret
      exact E.out
  · have hml2 := hml
    have wz := h.map.alloc (.cells #[.int .i64 31, .string ⟨#[]⟩, .int .i64 v, .int .i64 0] 58)
    have wz2 := (wz.alloc (.cells #[.int .i64 31, .string ⟨#[]⟩, .int .i64 v, .int .i64 0, .slice none 0 0, .pointer none, .bool false, .int .i64 0] 136)).drew.drew
    obtain ⟨w2, hup, hm2, hg2⟩ := wz2.update law2 Tryz.underlying92 (by unfold maxLen; omega) (key2 v (by omega) (by omega)) (PE_pv (w.heap.size + 1))
    unfold pv at hup
    have c1b : ((w.alloc (.cells #[.int .i64 31, .string ⟨#[]⟩, .int .i64 v, .int .i64 0] 58)).alloc (.cells #[.int .i64 31, .string ⟨#[]⟩, .int .i64 v, .int .i64 0, .slice none 0 0, .pointer none, .bool false, .int .i64 0] 136)).cell? ⟨sb, 1, none⟩ = some (.map (some mb)) :=
      ((ba.alloc (by simp) (.cells #[.int .i64 31, .string ⟨#[]⟩, .int .i64 v, .int .i64 0, .slice none 0 0, .pointer none, .bool false, .int .i64 0] 136)).cell (p := ⟨sb, 1, none⟩) hsl).trans c1
    have E : Hid (VarP B S tr es sb mb n nx mrk v w (.returned (.pointer (some ⟨w.heap.size + 1, 0, none⟩))) w2) := by
      have hBw := h.tw.fit
      have hsz : w.heap.size + 2 ≤ w2.heap.size := by have := hg2.size; simp at this; omega
      have hXl : w.heap.size + 1 < w2.heap.size := by omega
      have hfr : ∀ k, k < w.heap.size → k ≠ mb → w2.heap[k]? = w.heap[k]? := fun k hk hne => by
        have b2 := (ba.alloc (by simp) (.cells #[.int .i64 31, .string ⟨#[]⟩, .int .i64 v, .int .i64 0, .slice none 0 0, .pointer none, .bool false, .int .i64 0] 136)).drew.drew
        exact (hg2.block k (by simp; omega) (by simp; exact hne)).trans (b2.block k hk)
      have hXb : w2.heap[w.heap.size + 1]? = some (.cells (tmCells (vN v) (.slice none 0 0) none false 0) 136 (0, 0)) := by
        have ht := alloc_top (w.alloc (.cells #[.int .i64 31, .string ⟨#[]⟩, .int .i64 v, .int .i64 0] 58)) (.cells #[.int .i64 31, .string ⟨#[]⟩, .int .i64 v, .int .i64 0, .slice none 0 0, .pointer none, .bool false, .int .i64 0] 136)
        rw [show (w.alloc (.cells #[.int .i64 31, .string ⟨#[]⟩, .int .i64 v, .int .i64 0] 58)).heap.size = w.heap.size + 1 by simp] at ht
        exact (hg2.block (w.heap.size + 1) (by simp) (by simp; omega)).trans ht
      have hXd : w.heap.size + 1 ∉ S.dom := fun hd => by have := (h.tw.blk hd).1; omega
      refine .mk (S.add (w.heap.size + 1) (vN v) [] none) (upd tr (w.heap.size + 1) (vT v)) (w.heap.size + 1) (n + 1) _ rfl (h.addVar ⟨hv0, hv1⟩ (by omega) hXl hno hfr (by omega) hXb hm2) List.mem_cons_self (upd_same _ _ _) (gro_add w S tr (by omega) hXd _ _ _ (by simp) _) ⟨hg2.os, hg2.tape, hg2.output, by omega, fun k hk hd => hfr k hk fun e => hd (.inr e)⟩ (by rw [wa_add S hXd]; simp; omega) (Nat.le_refl _)
    clear h hsl hml H
    go_enter Tryz.func116, Tryz.ntmps116
    go_wp2
    go_region
    all_goals go_wp2
    all_goals go_region
    all_goals
      go_wp2
      go_ret
      exact E.out
end Go.Proofs.YtncifeeinogcnaaGreatDoor
