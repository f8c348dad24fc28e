/- Texts of this seat, one behind the other: ParZ, ParB. -/
import Derived.Test.YtggjckalmlploaaGreatDoorKn27
/- The parser: the next token. -/
set_option maxRecDepth 100000
namespace Go.Proofs.YtggjckalmlploaaGreatDoor
open Go.Shelf Go.RowKit Go.Lib Go.Proofs.TreeMath Go.Proofs.LexMath Go.Proofs.FixMath Go.Proofs.ParMath
theorem IsTest.form {p : Nat} {w : World} {v : Value} {f : Test} (h : IsTest p w v f) : ∃ g cap, v = .func (.func g) #[] cap := by
  obtain ⟨g, cap, e, _⟩ := h
  exact ⟨g, cap, e⟩
theorem one_test {p : Nat} {w : World} {tv : Value} {f : Test} (hT : IsTest p w tv f) : TestsIn p (w.alloc (.cells #[tv] 73)) w.heap.size 0 [f] := fun j hj => by
  obtain rfl : j = 0 := by simpa using hj
  exact ⟨tv, by simp, hT.below ((Below.refl _ _).alloc (Nat.le_refl _) _)⟩
def zt : Array Value := #[.int .i64 0, .string ⟨#[]⟩, .int .i64 0, .int .i64 0]
theorem zt_cells {w : World} {X : Nat} (h : w.heap[X]? = some (.cells zt 45 (0, 0))) : w.cell? ⟨X, 0, none⟩ = some (.int .i64 0) ∧ w.cell? ⟨X, 1, none⟩ = some (.string ⟨#[]⟩) ∧ w.cell? ⟨X, 2, none⟩ = some (.int .i64 0) ∧ w.cell? ⟨X, 3, none⟩ = some (.int .i64 0) ∧ w.frozen? ⟨X, 0, none⟩ = false ∧ w.frozen? ⟨X, 1, none⟩ = false ∧ w.frozen? ⟨X, 2, none⟩ = false ∧ w.frozen? ⟨X, 3, none⟩ = false :=
  ⟨cell_of_heap h 0, cell_of_heap h 1, cell_of_heap h 2, cell_of_heap h 3, frozen_of_heap h 0, frozen_of_heap h 1, frozen_of_heap h 2, frozen_of_heap h 3⟩
theorem blk4 {w : World} {X : Nat} (h : w.heap[X]? = some (.cells zt 45 (0, 0))) (a b c d : Value) : ((((w.setCell ⟨X, 0, none⟩ a).setCell ⟨X, 1, none⟩ b).setCell ⟨X, 2, none⟩ c).setCell ⟨X, 3, none⟩ d).heap[X]? = some (.cells #[a, b, c, d] 45 (0, 0)) := by
  simp [World.setCell, Array.getElem?_modify, h, zt]
theorem res69 (tmps : Array Value) (w : World) (X : Nat) (a b c d : Value) (hp : tmps.getD 4 undef = .pointer (some ⟨X, 0, none⟩)) (hg : w.heap[X]? = some (.cells #[a, b, c, d] 45 (0, 0))) : (results Tryz.f69 tmps).run Tryz.prog w = .ok (.agg #[a, b, c, d]) w :=
  results_cell_row rfl tmps w X 45 _ _ _ hp hg Tryz.underlying45 rfl (by kernel_rfl)
theorem alloc_blk {w : World} {X : Nat} {o o' : Obj} (h : w.heap[X]? = some o) : (w.alloc o').heap[X]? = some o := by
  rw [Below.heap_alloc _ _ _ (Array.getElem?_eq_some_iff.1 h).1]; exact h
def TRet (C : Cfg) (p : Nat) (dp : Int) (r : Tok × St) (W : World) (e : Ending) (w' : World) : Prop := e = .returned (tokV r.1) ∧ PS C p dp r.2 w' ∧ Bar p W w'
theorem toks_tail {w : World} {b off c : Nat} {t : Tok} {r : List Tok} (hb : b < w.heap.size) (hc1 : r.length + 1 ≤ c) (hc2 : c ≤ maxLen) (h : Lx.CellsIn w b off (Lx.tokCells (t :: r))) : ToksA w (.slice (some ⟨b, off + 4, none⟩) r.length (c - 1)) r := by
  refine ⟨Lx.length_tokCells r, _, _, rfl, by omega, by omega, fun _ => ⟨b, _, rfl, hb, fun j u hj => ?_⟩⟩
  have := h (4 + j) u (by
    have e : Lx.tokCells (t :: r) = Tok.cells t ++ Lx.tokCells r := by simp [Lx.tokCells]
    rw [e, List.getElem?_append_right (by simp [Tok.cells])]
    simpa [Tok.cells] using hj)
  rw [← Nat.add_assoc] at this
  exact this
theorem take_end {C : Cfg} {p : Nat} {dp : Int} {s : St} {w w2 : World} {t : Tok} {r : List Tok} (hP : PS C p dp s w2) (hB : Bar p w w2) (hX : p < w.heap.size) (nv : Value) (ht : ToksA w2 nv r) (hl : Low p nv) (hr : s.rest = t :: r) (a b c d : Value) (o : Obj) :
    PS C p dp ⟨r, s.e, s.at_⟩ ((((((w2.setCell ⟨p, 0, none⟩ nv).setCell ⟨w.heap.size, 0, none⟩ a).setCell ⟨w.heap.size, 1, none⟩ b).setCell ⟨w.heap.size, 2, none⟩ c).setCell ⟨w.heap.size, 3, none⟩ d).alloc o) ∧
    Bar p w ((((((w2.setCell ⟨p, 0, none⟩ nv).setCell ⟨w.heap.size, 0, none⟩ a).setCell ⟨w.heap.size, 1, none⟩ b).setCell ⟨w.heap.size, 2, none⟩ c).setCell ⟨w.heap.size, 3, none⟩ d).alloc o) := by
  have B1 : Bar p w2 (w2.setCell ⟨p, 0, none⟩ nv) := (Bar.refl p w2).setCell 0 nv
  obtain ⟨q, k, q2, k2, _, _, _, _, _, _, _, _, _, ⟨fv, hb, hf, hfl⟩, _⟩ := hP.cells
  have hlim : Lim r := by
    have := hP.lim
    rw [hr] at this
    exact ⟨by have := this.1; simp at this; omega, fun u hu => this.2 u (by simp [hu])⟩
  have P1 : PS C p dp ⟨r, s.e, s.at_⟩ (w2.setCell ⟨p, 0, none⟩ nv) := hP.made (B1.low (Nat.le_of_lt hP.lt)) nv fv (set_blk hb 0 _) hf hfl ht hl hlim
  have P5 := (((P1.setOff hX 0 a).setOff hX 1 b).setOff hX 2 c).setOff hX 3 d
  refine ⟨P5.below ((Below.refl _ _).alloc (Nat.le_refl _) o), ?_⟩
  exact (((((hB.trans B1).setNew (Nat.le_refl _) 0 a).setNew (Nat.le_refl _) 1 b).setNew (Nat.le_refl _) 2 c).setNew (Nat.le_refl _) 3 d).alloc o
set_option maxHeartbeats 4000000 in
theorem take_any (C : Cfg) (p : Nat) (dp : Int) (s : St) (tv : Value) (f : Test) (w : World) (h : PS C p dp s w) (hT : IsTest p w tv f) :
    Calls Tryz.prog 69 #[.pointer (some ⟨p, 0, none⟩), tv] w (TRet C p dp (take C f s) w) := by
  obtain ⟨g, cap, rfl⟩ := hT.form
  have b1 : Below w.heap.size w (w.alloc (.cells zt 45)) := (Below.refl _ _).alloc (Nat.le_refl _) _
  have b2 : Below w.heap.size w ((w.alloc (.cells zt 45)).alloc (.cells #[.func (.func g) #[] cap] 73)) := b1.alloc (by simp) _
  have K := sees_any C p dp s [f] (w.alloc (.cells zt 45)).heap.size 0 1 1 _ (h.below b2) rfl (by omega) (by simp) (by have := h.lt; simp; omega) (one_test (hT.below b1))
  rw [show (w.alloc (.cells zt 45)).heap.size = w.heap.size + 1 by simp] at K
  have K := Lib.hid K
  have Z : ((w.alloc (.cells zt 45)).alloc (.cells #[.func (.func g) #[] cap] 73)).heap[w.heap.size]? = some (.cells zt 45 (0, 0)) := by
    rw [Below.heap_alloc _ _ _ (by simp)]
    show (w.heap.push _)[w.heap.size]? = _
    simp
  have Z := Lib.hid Z
  have H := Lib.hid h
  have B2 := Lib.hid b2
  have hsz : w.heap.size < ((w.alloc (.cells zt 45)).alloc (.cells #[.func (.func g) #[] cap] 73)).heap.size := by simp; omega
  have HSZ := Lib.hid hsz
  have hpl := h.lt
  have HPL := Lib.hid hpl
  clear h hT b1 b2 hsz hpl
  unfold zt at K Z B2 HSZ
  go_enter Tryz.func69, Tryz.ntmps69
  go_wp2_with fail
  refine K.out.mono ?_
  rintro e w2 ⟨rfl, hb2⟩
  have hbw := B2.out.trans (hb2.mono B2.out.size)
  have P2 := H.out.below hbw
  have z2 := (hb2.block _ HSZ.out).trans Z.out
  have P2 := Lib.hid P2
  have BW := Lib.hid (Bar.of_below (p := p) hbw)
  clear hb2 hbw K Z B2
  cases hv : sees [f] s.rest with
  | false =>
    have e : take C f s = (tok0, s.fail (here C s) 70) := by unfold take; rw [hv, if_neg (by simp)]
    have TK := Lib.hid e
    clear e hv
    obtain ⟨x0, x1, x2, x3, g0, g1, g2, g3⟩ := zt_cells z2
    have HERE := Lib.hid (here_any C p dp s w2 P2.out)
    have FAIL := Lib.hid (fail_any C p dp s (here C s) 70 w2 P2.out)
    have Z2 := Lib.hid z2
    clear z2 x0 x1 x2 x3 g0 g1 g2 g3
    go_wp2_with fail
    refine HERE.out.mono ?_
    rintro e w3 ⟨rfl, rfl⟩
    go_wp2_with fail
    refine FAIL.out.mono ?_
    rintro e w4 ⟨rfl, hP4, hB4⟩
    have z4 := (hB4.block w.heap.size (by have := (Array.getElem?_eq_some_iff.1 Z2.out).1; exact this) (by have := HPL.out; omega)).trans Z2.out
    have P4 := Lib.hid hP4
    have B4 := Lib.hid (BW.out.trans hB4)
    clear hP4 hB4
    obtain ⟨x0, x1, x2, x3, g0, g1, g2, g3⟩ := zt_cells z4
    have z4' := z4
    clear z4
    go_wp2_with fail
    have hX : p < w.heap.size := HPL.out
    have PP := (((P4.out.setOff hX 0 (.int .i64 0)).setOff hX 1 (.string ⟨#[]⟩)).setOff hX 2 (.int .i64 0)).setOff hX 3 (.int .i64 0)
    have BB := (((B4.out.setNew (Nat.le_refl _) 0 (.int .i64 0)).setNew (Nat.le_refl _) 1 (.string ⟨#[]⟩)).setNew (Nat.le_refl _) 2 (.int .i64 0)).setNew (Nat.le_refl _) 3 (.int .i64 0)
    refine bodyPost_ret (v := .agg #[.int .i64 0, .string ⟨#[]⟩, .int .i64 0, .int .i64 0]) (res69 _ _ w.heap.size (.int .i64 0) (.string ⟨#[]⟩) (.int .i64 0) (.int .i64 0) rfl (blk4 z4' (.int .i64 0) (.string ⟨#[]⟩) (.int .i64 0) (.int .i64 0))) rfl ?_
    unfold TRet
    rw [TK.out]
    exact ⟨rfl, PP, BB⟩
  | true =>
    obtain ⟨t, r, hr⟩ := head_of hv
    have e : take C f s = (t, ⟨r, s.e, s.at_⟩) := by unfold take; rw [hv, if_pos rfl, hr]; rfl
    have TK := Lib.hid e
    obtain ⟨b, off, c, h0, hbp, hbl, hc1, hc2, hcs, k0, k1, k2, k3⟩ := P2.out.cons hr
    have hfz := P2.out.fz 0
    obtain ⟨x0, x1, x2, x3, g0, g1, g2, g3⟩ := zt_cells z2
    have hxl := (Array.getElem?_eq_some_iff.1 z2).1
    have hX : p < w.heap.size := HPL.out
    have hlz : (0 : Int) < ((r.length + 1 : Nat) : Int) := by omega
    have hpl2 := P2.out.lt
    have hne : p ≠ w2.heap.size := by omega
    have hne2 : w.heap.size ≠ w2.heap.size := by omega
    have hne3 : w.heap.size ≠ p := by omega
    have HCS := Lib.hid hcs
    have HR := Lib.hid hr
    have HC2 := Lib.hid hc2
    have Z2 := Lib.hid z2
    clear e hv z2 hcs hr hc2
    have RES : ∀ (nv : Value) (tmps : Array Value), tmps.getD 4 undef = .pointer (some ⟨w.heap.size, 0, none⟩) → ToksA w2 nv r → Low p nv → ∀ ds : List Deferred, ds = [] → bodyPost Tryz.prog Tryz.f69 (TRet C p dp (take C f s) w) Exit.ret ⟨tmps, ds⟩ ((((((w2.setCell ⟨p, 0, none⟩ nv).setCell ⟨w.heap.size, 0, none⟩ (.int .i64 t.kind)).setCell ⟨w.heap.size, 1, none⟩ (.string t.text)).setCell ⟨w.heap.size, 2, none⟩ (.int .i64 t.num)).setCell ⟨w.heap.size, 3, none⟩ (.int .i64 t.at_)).alloc (.cells #[.int .i64 t.kind, .string t.text, .int .i64 t.num, .int .i64 t.at_] 45)) := by
      intro nv tmps h1 h2 h3 ds hd
      obtain ⟨PP, BB⟩ := take_end P2.out BW.out HPL.out nv h2 h3 HR.out (.int .i64 t.kind) (.string t.text) (.int .i64 t.num) (.int .i64 t.at_) (.cells #[.int .i64 t.kind, .string t.text, .int .i64 t.num, .int .i64 t.at_] 45)
      refine bodyPost_ret (v := tokV t) (res69 _ _ w.heap.size (.int .i64 t.kind) (.string t.text) (.int .i64 t.num) (.int .i64 t.at_) h1 (alloc_blk (blk4 ((Below.heap_setCell _ _ _ _ hne3).trans Z2.out) (.int .i64 t.kind) (.string t.text) (.int .i64 t.num) (.int .i64 t.at_)))) hd ?_
      unfold TRet
      rw [TK.out]
      exact ⟨rfl, PP, BB⟩
    have T1 := Lib.hid (toks_tail hbl hc1 HC2.out HCS.out)
    have RES := Lib.hid RES
    go_wp2_with fail
    · have h0 : r.length = 0 := by omega
      refine RES.out (.slice (some ⟨b, off, none⟩) r.length 0) _ rfl ?_ ?_ _ rfl
      · obtain rfl : r = [] := List.eq_nil_of_length_eq_zero h0
        exact ⟨rfl, _, _, rfl, Nat.le_refl _, Nat.zero_le _, fun h => absurd rfl h⟩
      · intro _ _ _ _ e hn
        simp only [Value.slice.injEq] at e
        exact absurd (e.2.1.symm.trans h0) hn
    · refine RES.out (.slice (some ⟨b, off + 4, none⟩) r.length (c - 1)) _ rfl T1.out ?_ _ rfl
      intro _ _ _ _ e _
      simp only [Value.slice.injEq, Option.some.injEq, Addr.mk.injEq] at e
      omega
end Go.Proofs.YtggjckalmlploaaGreatDoor
/- The parser: literals of tests; a bind; what nests. -/
set_option maxRecDepth 100000
namespace Go.Proofs.YtggjckalmlploaaGreatDoor
open Go.Shelf Go.RowKit Go.Lib Go.Proofs.TreeMath Go.Proofs.LexMath Go.Proofs.FixMath Go.Proofs.ParMath
theorem lit_cells (w : World) (cs : Array Value) (T : TypeId) : CellsIn (w.alloc (.cells cs T)) w.heap.size 0 cs.toList := fun j u hj => by
  have : (w.alloc (.cells cs T)).heap[w.heap.size]? = some (.cells cs T (0, 0)) := by show (w.heap.push _)[w.heap.size]? = _; simp
  rw [cell_of_heap this]
  simpa using hj
theorem lit_below (w : World) (o : Obj) : Below w.heap.size w (w.alloc o) := (Below.refl _ _).alloc (Nat.le_refl _) o
/-- A literal of kinds, and its test. -/
theorem kindL (p : Nat) (ks : List Int) (n : Nat) (cs : Array Value) (w : World) (hp : p < w.heap.size) (hn : ks.length = n) (hc : cs.toList = intCells ks) (hb : ks.length ≤ 1000) :
    Calls Tryz.prog 68 #[.slice (some ⟨w.heap.size, 0, none⟩) n n] (w.alloc (.cells cs 43)) fun e w' => ∃ v, e = .returned v ∧ IsTest p w' v (isKind ks) ∧ Below w.heap.size w w' := by
  have hl := lit_cells w cs 43
  rw [hc] at hl
  refine (kind_any p ks w.heap.size 0 n n _ (by simp; omega) hn (by omega) (by simp) (by omega) hl).mono ?_
  rintro e w' ⟨v, rfl, h1, h2⟩
  exact ⟨v, rfl, h1, (lit_below w _).trans (h2.mono (by simp))⟩
theorem sees1_any {C : Cfg} {p : Nat} {dp : Int} {s : St} {w : World} {v : Value} {f : Test} (h : PS C p dp s w) (hT : IsTest p w v f) :
    Calls Tryz.prog 35 #[.pointer (some ⟨p, 0, none⟩), .slice (some ⟨w.heap.size, 0, none⟩) 1 1] (w.alloc (.cells #[v] 73)) fun e w' => e = .returned (.bool (sees [f] s.rest)) ∧ Below w.heap.size w w' := by
  refine (sees_any C p dp s [f] w.heap.size 0 1 1 _ (h.below (lit_below w _)) rfl (by omega) (by simp) (by have := h.lt; omega) (one_test hT)).mono ?_
  rintro e w' ⟨rfl, h2⟩
  exact ⟨rfl, (lit_below w _).trans (h2.mono (by simp))⟩
theorem sees2_any {C : Cfg} {p : Nat} {dp : Int} {s : St} {w : World} {v v2 : Value} {f f2 : Test} (h : PS C p dp s w) (hT : IsTest p w v f) (hT2 : IsTest p w v2 f2) :
    Calls Tryz.prog 35 #[.pointer (some ⟨p, 0, none⟩), .slice (some ⟨w.heap.size, 0, none⟩) 2 2] (w.alloc (.cells #[v, v2] 73)) fun e w' => e = .returned (.bool (sees [f, f2] s.rest)) ∧ Below w.heap.size w w' := by
  refine (sees_any C p dp s [f, f2] w.heap.size 0 2 2 _ (h.below (lit_below w _)) rfl (by omega) (by simp) (by have := h.lt; omega) (fun j hj => ?_)).mono ?_
  · have hl := lit_cells w #[v, v2] 73
    rcases j with _ | _ | j
    · exact ⟨v, hl 0 v rfl, hT.below (lit_below w _)⟩
    · exact ⟨v2, hl 1 v2 rfl, hT2.below (lit_below w _)⟩
    · exact absurd hj (by simp)
  · rintro e w' ⟨rfl, h2⟩
    exact ⟨rfl, (lit_below w _).trans (h2.mono (by simp))⟩
theorem takes_any (C : Cfg) (p : Nat) (dp : Int) (s : St) (tv : Value) (f : Test) (w : World) (h : PS C p dp s w) (hT : IsTest p w tv f) :
    Calls Tryz.prog 69 #[.pointer (some ⟨p, 0, none⟩), tv] w fun e w' => ∃ t, t = (take C f s).1 ∧ e = .returned (.agg #[.int .i64 t.kind, .string t.text, .int .i64 t.num, .int .i64 t.at_]) ∧ PS C p dp (take C f s).2 w' ∧ Bar p w w' :=
  (take_any C p dp s tv f w h hT).mono fun _ _ ⟨h1, h2, h3⟩ => ⟨_, rfl, h1, h2, h3⟩
theorem field_text (a c d : Int) (x : ByteArray) (w : World) : (Instr.field 45 (.agg #[.int .i64 a, .string x, .int .i64 c, .int .i64 d]) 1).run Tryz.prog w = .ok (.string x) w := by kernel_rfl
theorem field_num (a c d : Int) (x : ByteArray) (w : World) : (Instr.field 45 (.agg #[.int .i64 a, .string x, .int .i64 c, .int .i64 d]) 2).run Tryz.prog w = .ok (.int .i64 c) w := by kernel_rfl
attribute [local go_sem] field_text field_num
set_option maxHeartbeats 4000000 in
theorem bind_any (C : Cfg) (p : Nat) (dp : Int) (s : St) (w0 : World) (h : PS C p dp s w0) : Calls Tryz.prog 88 #[.pointer (some ⟨p, 0, none⟩)] w0 fun e w' => ∃ t, t = (bindM C s).1 ∧ e = .returned (.string t) ∧ PS C p dp (bindM C s).2 w' ∧ Bar p w0 w' := by
  have P0 := Lib.hid h
  have B0 := Lib.hid (Bar.refl p w0)
  clear h
  go_enter Tryz.func88, Tryz.ntmps88
  go_wp2_with fail
  refine (key_any p ⟨#[40]⟩ _ P0.out.lt).mono ?_
  rintro e w1 ⟨v1, rfl, hT, hb⟩
  obtain ⟨g1, cap1, rfl⟩ := hT.form
  have T1 := Lib.hid hT; have P1 := Lib.hid (P0.out.below hb); have B1 := Lib.hid (B0.out.step hb)
  clear hT hb
  go_wp2_with fail
  refine (sees1_any P1.out T1.out).mono ?_
  rintro e w2 ⟨rfl, hb⟩
  have P2 := Lib.hid (P1.out.below hb); have B2 := Lib.hid (B1.out.step hb)
  have T1 := Lib.hid (T1.out.below hb)
  clear hb
  cases hv : sees [isKey ⟨#[40]⟩] s.rest with
  | false =>
      have hM : bindM C s = ((take C (isKind [1]) s).1.text, (take C (isKind [1]) s).2) := by unfold bindM wLp; rw [hv]; rfl
      have HM := Lib.hid hM
      clear hv hM
      go_wp2_with fail
      refine (kindL p [1] _ _ _ P2.out.lt rfl rfl (by decide)).mono ?_
      rintro e w3 ⟨v3, rfl, hT, hb⟩
      obtain ⟨g3, cap3, rfl⟩ := hT.form
      have T2 := Lib.hid hT; have P3 := Lib.hid (P2.out.below hb); have B3 := Lib.hid (B2.out.step hb)
      clear hT hb
      go_wp2_with fail
      refine (takes_any C p dp _ _ (isKind [1]) _ P3.out T2.out).mono ?_
      rintro e w4 ⟨t, ht, rfl, hP, hB⟩
      have P4 := Lib.hid hP; have B4 := Lib.hid (B3.out.trans hB); have Ht := Lib.hid ht
      have T2 := Lib.hid (T2.out.bar hB)
      clear hP hB ht
      go_wp2_with fail
      go_ret
      rw [HM.out]
      exact ⟨_, by rw [← Ht.out], rfl, P4.out, B4.out⟩
  | true =>
      have hM : bindM C s = ((take C (isKind [5]) (take C (isKey wLp) s).2).1.text, (take C (isKey wRp) (take C (isKind [5]) (take C (isKey wLp) s).2).2).2) := by unfold bindM; rw [show sees [isKey wLp] s.rest = true from hv]; rfl
      have HM := Lib.hid hM
      clear hv hM
      go_wp2_with fail
      refine (key_any p ⟨#[40]⟩ _ P2.out.lt).mono ?_
      rintro e w3 ⟨v3, rfl, hT, hb⟩
      obtain ⟨g3, cap3, rfl⟩ := hT.form
      have T2 := Lib.hid hT; have P3 := Lib.hid (P2.out.below hb); have B3 := Lib.hid (B2.out.step hb)
      clear hT hb
      go_wp2_with fail
      refine (takes_any C p dp _ _ (isKey ⟨#[40]⟩) _ P3.out T2.out).mono ?_
      rintro e w4 ⟨t1, ht1, rfl, hP, hB⟩
      have P4 := Lib.hid hP; have B4 := Lib.hid (B3.out.trans hB); have Ht1 := Lib.hid ht1
      have T2 := Lib.hid (T2.out.bar hB)
      clear hP hB ht1
      go_wp2_with fail
      refine (kindL p [5] _ _ _ P4.out.lt rfl rfl (by decide)).mono ?_
      rintro e w5 ⟨v5, rfl, hT, hb⟩
      obtain ⟨g5, cap5, rfl⟩ := hT.form
      have T3 := Lib.hid hT; have P5 := Lib.hid (P4.out.below hb); have B5 := Lib.hid (B4.out.step hb)
      clear hT hb
      go_wp2_with fail
      refine (takes_any C p dp _ _ (isKind [5]) _ P5.out T3.out).mono ?_
      rintro e w6 ⟨t2, ht2, rfl, hP, hB⟩
      have P6 := Lib.hid hP; have B6 := Lib.hid (B5.out.trans hB); have Ht2 := Lib.hid ht2
      have T3 := Lib.hid (T3.out.bar hB)
      clear hP hB ht2
      go_wp2_with fail
      refine (key_any p ⟨#[41]⟩ _ P6.out.lt).mono ?_
      rintro e w7 ⟨v7, rfl, hT, hb⟩
      obtain ⟨g7, cap7, rfl⟩ := hT.form
      have T4 := Lib.hid hT; have P7 := Lib.hid (P6.out.below hb); have B7 := Lib.hid (B6.out.step hb)
      clear hT hb
      go_wp2_with fail
      refine (takes_any C p dp _ _ (isKey ⟨#[41]⟩) _ P7.out T4.out).mono ?_
      rintro e w8 ⟨t3, ht3, rfl, hP, hB⟩
      have P8 := Lib.hid hP; have B8 := Lib.hid (B7.out.trans hB); have Ht3 := Lib.hid ht3
      have T4 := Lib.hid (T4.out.bar hB)
      clear hP hB ht3
      go_wp2_with fail
      go_ret
      rw [HM.out]
      exact ⟨_, by rw [Ht2.out]; rfl, rfl, P8.out, B8.out⟩
end Go.Proofs.YtggjckalmlploaaGreatDoor
