/- Texts of this seat, one behind the other: DaC, DaD. -/
import Derived.Test.YtncifeeinogcnaaDoorKn11
/- Whether a constructor, and a declaration, is well-formed. -/
set_option maxRecDepth 100000
namespace Go.Proofs.YtncifeeinogcnaaDoor
open Go.Shelf Go.RowKit Go.Lib Go.Sort Go.Proofs.TreeMath Go.Proofs.LexMath

theorem enters (f : Nat) (fn : Func) (hq : Tryd.prog.funcs[f]? = some fn) (hn : (fn.name == "runtime.NumGoroutine") = false) (hb : fn.body.isNone = false) : Hid (∀ vs w, (callFunc f vs).run Tryd.prog w = .ok (.enter f vs) w) := Lib.hid fun vs w => run_callFunc hq hn hb vs w
theorem rname_any (s : ByteArray) (w : World) (hs : s.size ≤ 100000000) : Calls Tryd.prog 49 #[.string s] w (BRw (nameB s) w) := by
  have R := Lib.hid (fun W => Lx.right_any ⟨2, s, 0, 0⟩ W hs)
  have E : Hid (∀ w', Below w.heap.size w w' → BRw (nameB s) w (.returned (.bool (nameB s))) w') := Lib.hid fun w' h => ⟨rfl, h⟩
  rw [show rightB ⟨2, s, 0, 0⟩ = nameB s from rfl] at R
  unfold Lx.tokV at R
  generalize nameB s = y at *
  generalize BRw y w = Z at *
  go_enter Tryd.func49, Tryd.ntmps49
  go_wp2_with fail
  refine (R.out _).mono ?_
  rintro e w1 ⟨rfl, b1⟩
  have F := Lib.hid (E.out _ b1)
  clear b1 R
  go_wp2
  first | go_ret | skip
  exact F.out
theorem none_any (v : Value) (t : List Nd) (w : World) (h : NodesAt w v t) (hl : t.length ≤ 1000000) (hs : SmallN t) : Calls Tryd.prog 63 #[v] w (BRw (!tyB t) w) := by
  have R := Lib.hid (check_any v t w h hl hs)
  unfold CkP at R
  have E : ∀ b, tyB t = b → Hid (∀ w', Below w.heap.size w w' → BRw (!tyB t) w (.returned (.bool (!b))) w') := fun b e => Lib.hid fun w' h => ⟨by rw [e], h⟩
  cases ht : tyB t with
  | true =>
    have E := E true ht
    rw [ht] at R E
    generalize BRw (!true) w = Z at *
    clear h hl hs ht
    go_enter Tryd.func63, Tryd.ntmps63
    go_wp2_with fail
    refine R.out.mono ?_
    rintro e w1 ⟨rfl, b1⟩
    have F := Lib.hid (E.out _ b1)
    clear b1 R
    go_wp2
    first | go_ret | skip
    exact F.out
  | false =>
    have E := E false ht
    rw [ht] at R E
    generalize BRw (!false) w = Z at *
    clear h hl hs ht
    go_enter Tryd.func63, Tryd.ntmps63
    go_wp2_with fail
    refine R.out.mono ?_
    rintro e w1 ⟨rfl, b1⟩
    have F := Lib.hid (E.out _ b1)
    clear b1 R
    go_wp2
    first | go_ret | skip
    exact F.out
/-- A variable that is no parameter. -/
def farV (p : Int) (n : Nd) : Bool := decide (n.kind = 31) && decide (p ≤ n.num)
theorem far_any (n : Nd) (p : Int) (b : Nat) (w W : World) (hb : b < W.heap.size) (hc : W.cell? ⟨b, 0, none⟩ = some (.int .i64 p)) (hW : Below W.heap.size W w) : Calls Tryd.prog 65 #[n.val, .pointer (some ⟨b, 0, none⟩)] w (BRw (farV p n) w) := by
  obtain ⟨k, s, nm, c⟩ := n
  have BA : Hid (Below w.heap.size w (w.alloc (.cells #[.int .i64 k, .string s, .int .i64 nm, .int .i64 c] 42))) := Lib.hid ((Below.refl _ _).alloc (Nat.le_refl _) _)
  have c0 : (w.alloc (.cells #[.int .i64 k, .string s, .int .i64 nm, .int .i64 c] 42)).cell? ⟨b, 0, none⟩ = some (.int .i64 p) := ((hW.trans (BA.out.mono hW.size)).cell (p := ⟨b, 0, none⟩) hb).trans hc
  have E : ∀ y, farV p ⟨k, s, nm, c⟩ = y → Hid (∀ w', Below w.heap.size w w' → BRw (farV p ⟨k, s, nm, c⟩) w (.returned (.bool y)) w') := fun y e => Lib.hid fun w' h => ⟨by rw [e], h⟩
  have HB := Lib.hid hb
  have hbw := Nat.lt_of_lt_of_le hb hW.size
  unfold Nd.val
  simp only
  by_cases h31 : k = 31
  · subst h31
    cases hp : decide (p ≤ nm) with
    | true =>
      have E := E true (by simp [farV, hp])
      generalize BRw (farV p ⟨31, s, nm, c⟩) w = Z at *
      clear hc hW hb
      go_enter Tryd.func65, Tryd.ntmps65
      go_wp2
      first | go_ret | skip
      exact E.out _ BA.out
    | false =>
      have E := E false (by simp [farV, hp])
      generalize BRw (farV p ⟨31, s, nm, c⟩) w = Z at *
      clear hc hW hb
      go_enter Tryd.func65, Tryd.ntmps65
      go_wp2
      first | go_ret | skip
      exact E.out _ BA.out
  · have E := E false (by simp [farV, h31])
    have t1 : (k == 31) = false := by simpa using h31
    generalize BRw (farV p ⟨k, s, nm, c⟩) w = Z at *
    clear hc hW hb h31
    go_enter Tryd.func65, Tryd.ntmps65
    go_wp2
    first | go_ret | skip
    exact E.out _ BA.out
end Go.Proofs.YtncifeeinogcnaaDoor
/- Whether a node of a constructor's parts is like that; whether a constructor, and a declaration, is well-formed. -/
set_option maxRecDepth 100000
namespace Go.Proofs.YtncifeeinogcnaaDoor
open Go.Shelf Go.RowKit Go.Lib Go.Sort Go.Proofs.TreeMath Go.Proofs.LexMath

theorem any_range {α : Type} [Inhabited α] (l : List α) (p : α → Bool) : ((List.range l.length).any fun j => p (l.getD j default)) = l.any p := by
  cases h : l.any p with
  | true =>
    obtain ⟨x, hx, hp⟩ := List.any_eq_true.1 h
    obtain ⟨j, hj, rfl⟩ := List.getElem_of_mem hx
    exact List.any_eq_true.2 ⟨j, List.mem_range.2 hj, by rw [List.getD_eq_getElem?_getD, List.getElem?_eq_getElem hj]; exact hp⟩
  | false =>
    rw [List.any_eq_false] at h ⊢
    intro j hj
    exact h _ (getD_mem l j (List.mem_range.1 hj))
def hasP (p : Nd → Bool) (c : Ct) : Bool := c.args.any fun t => t.any p
theorem has1_any (v : Value) (t : List Nd) (b g : Nat) (caps : Array Value) (hg : Hid (∀ vs w, (callFunc g vs).run Tryd.prog w = .ok (.enter g vs) w)) (p : Nd → Bool) (w : World) (h : NodesAt w v t) (hc : w.cell? ⟨b, 0, none⟩ = some (.func (.func g) #[] caps))
    (hp : Hid (∀ n ∈ t, ∀ W, Below w.heap.size w W → Calls Tryd.prog g (#[n.val] ++ caps) W fun e w' => e = .returned (.bool (p n)) ∧ Below W.heap.size W w')) :
    Calls Tryd.prog 67 #[v, .pointer (some ⟨b, 0, none⟩)] w (BRw (t.any p) w) := by
  have C := Lib.hid (containsG_any g caps hg v t t.length (fun j => p (t.getD j default)) w h rfl (Lib.hid fun j hj W hW => hp.out _ (getD_mem t j hj) W hW))
  rw [any_range t p] at C
  have E : Hid (∀ w', BRw (t.any p) w (.returned (.bool (t.any p))) w' → BRw (t.any p) w (.returned (.bool (t.any p))) w') := Lib.hid fun _ h => h
  unfold BRw at C
  generalize t.any p = y at *
  clear h hp
  go_enter Tryd.func67, Tryd.ntmps67
  go_wp2_with fail
  refine C.out.mono ?_
  rintro e w1 ⟨rfl, b1⟩
  have F := Lib.hid (E.out w1 ⟨rfl, b1⟩)
  clear b1 C
  go_wp2
  first | go_ret | skip
  exact F.out
theorem has_any (c : Ct) (g : Nat) (caps : Array Value) (hg : Hid (∀ vs w, (callFunc g vs).run Tryd.prog w = .ok (.enter g vs) w)) (p : Nd → Bool) (w : World) (h : ListsAt w c.av c.args)
    (hp : Hid (∀ t ∈ c.args, ∀ n ∈ t, ∀ W, Below w.heap.size w W → Calls Tryd.prog g (#[n.val] ++ caps) W fun e w' => e = .returned (.bool (p n)) ∧ Below W.heap.size W w')) :
    Calls Tryd.prog 55 #[c.val, .func (.func g) #[] caps] w (BRw (hasP p c) w) := by
  obtain ⟨cn, cav, cas⟩ := c
  simp only at h hp
  have B2 : Hid (Below w.heap.size w ((w.alloc (.cells #[.string cn, cav] 33)).alloc (.cells #[.func (.func g) #[] caps] 63))) := Lib.hid (((Below.refl _ _).alloc (Nat.le_refl _) _).alloc (by simp) _)
  have H2 := h.below B2.out
  have CE : Hid (((w.alloc (.cells #[.string cn, cav] 33)).alloc (.cells #[.func (.func g) #[] caps] 63)).cell? ⟨w.heap.size + 1, 0, none⟩ = some (.func (.func g) #[] caps)) := Lib.hid (by
    have := heap_alloc_new (w.alloc (.cells #[.string cn, cav] 33)) (.cells #[.func (.func g) #[] caps] 63)
    rw [show (w.alloc (.cells #[.string cn, cav] 33)).heap.size = w.heap.size + 1 by simp] at this
    exact Lib.cell_of_heap this 0)
  obtain ⟨w2, hw2⟩ : ∃ w2, w2 = (w.alloc (.cells #[.string cn, cav] 33)).alloc (.cells #[.func (.func g) #[] caps] 63) := ⟨_, rfl⟩
  have hz : w.heap.size + 1 < w2.heap.size := by rw [hw2]; simp
  rw [← hw2] at B2 H2 CE
  obtain ⟨vs, hs, hn⟩ := H2
  have C := Lib.hid (containsL_any 67 #[.pointer (some ⟨w.heap.size + 1, 0, none⟩)] (enters 67 _ Tryd.func67 (by kernel_rfl) (by kernel_rfl)) cav vs cas.length (fun j => (cas.getD j default).any p) w2 hs (Lib.hid fun j hj W hW => has1_any _ (cas.getD j default) (w.heap.size + 1) g caps hg p W ((hn j hj).below hW) ((hW.cell (p := ⟨w.heap.size + 1, 0, none⟩) hz).trans CE.out) (Lib.hid fun n hnm W2 hW2 => hp.out _ (getD_mem cas j hj) n hnm W2 (B2.out.trans ((hW.trans (hW2.mono hW.size)).mono B2.out.size)))))
  rw [any_range cas (fun t => t.any p)] at C
  have E : Hid (∀ w', Below w.heap.size w w' → BRw (hasP p ⟨cn, cav, cas⟩) w (.returned (.bool (cas.any fun t => t.any p))) w') := Lib.hid fun _ h => ⟨rfl, h⟩
  unfold BRw at C
  generalize (cas.any fun t => t.any p) = y at *
  have HW := Lib.hid hw2
  generalize BRw (hasP p ⟨cn, cav, cas⟩) w = Z at *
  clear hw2 hs hn h hp
  unfold Ct.val
  simp only
  go_enter Tryd.func55, Tryd.ntmps55
  go_wp2_with fail
  rw [← HW.out]
  refine C.out.mono ?_
  rintro e w3 ⟨rfl, b3⟩
  have F := Lib.hid (E.out _ (B2.out.trans (b3.mono B2.out.size)))
  clear b3 C
  go_wp2
  first | go_ret | skip
  exact F.out
/-- Is a constructor well-formed, of so many parameters? -/
def rightC (p : Int) (c : Ct) : Bool := nameB c.name && decide (c.args.length ≤ 8) && c.args.all tyB && !hasP (farV p) c
set_option maxHeartbeats 1000000 in
theorem rctor_any (c : Ct) (p : Int) (w : World) (h : ListsAt w c.av c.args) (hs : SmallC c) : Calls Tryd.prog 48 #[c.val, .int .i64 p] w (BRw (rightC p c) w) := by
  obtain ⟨s1, s2, s3⟩ := hs
  have H := Lib.hid h
  obtain ⟨cn, cav, cas⟩ := c
  simp only at h s1 s2 s3
  have B2 : Hid (Below w.heap.size w ((w.alloc (.cells #[.string cn, cav] 33)).alloc (.cells #[.int .i64 p] 3))) := Lib.hid (((Below.refl _ _).alloc (Nat.le_refl _) _).alloc (by simp) _)
  have X1 := heap_alloc_new w (.cells #[.string cn, cav] 33)
  have X2 : ((w.alloc (.cells #[.string cn, cav] 33)).alloc (.cells #[.int .i64 p] 3)).heap[w.heap.size]? = some (.cells #[.string cn, cav] 33 (0, 0)) := (((Below.refl (w.alloc (.cells #[.string cn, cav] 33)).heap.size (w.alloc (.cells #[.string cn, cav] 33))).alloc (Nat.le_refl _) (.cells #[.int .i64 p] 3)).block w.heap.size (by simp)).trans X1
  have X3 : ((w.alloc (.cells #[.string cn, cav] 33)).alloc (.cells #[.int .i64 p] 3)).heap[w.heap.size + 1]? = some (.cells #[.int .i64 p] 3 (0, 0)) := by
    have := heap_alloc_new (w.alloc (.cells #[.string cn, cav] 33)) (.cells #[.int .i64 p] 3)
    rw [show (w.alloc (.cells #[.string cn, cav] 33)).heap.size = w.heap.size + 1 by simp] at this
    exact this
  obtain ⟨w2, hw2⟩ : ∃ w2, w2 = (w.alloc (.cells #[.string cn, cav] 33)).alloc (.cells #[.int .i64 p] 3) := ⟨_, rfl⟩
  have hz : w.heap.size + 1 < w2.heap.size := by rw [hw2]; simp
  rw [← hw2] at B2 X2 X3
  have RN := Lib.hid (fun W => rname_any cn W s1)
  have X2H := Lib.hid X2
  have HZ := Lib.hid hz
  have NO := Lib.hid (fun W (hW : Below w2.heap.size w2 W) => (by
    obtain ⟨vs, hvs, hn⟩ := H.out.below (B2.out.trans (hW.mono B2.out.size))
    have := containsL_any 63 #[] (enters 63 _ Tryd.func63 (by kernel_rfl) (by kernel_rfl)) cav vs cas.length (fun j => !tyB (cas.getD j default)) W hvs (Lib.hid fun j hj W2 hW2 => none_any _ (cas.getD j default) W2 ((hn j hj).below hW2) (s3 _ (getD_mem cas j hj)).1 (s3 _ (getD_mem cas j hj)).2)
    rw [any_range cas (fun t => !tyB t)] at this
    exact this : Calls Tryd.prog 64 #[cav, .func (.func 63) #[] #[]] W (BRw (cas.any fun t => !tyB t) W)))
  have HS := Lib.hid (fun W (hW : Below w2.heap.size w2 W) => has_any ⟨cn, cav, cas⟩ 65 #[.pointer (some ⟨w.heap.size + 1, 0, none⟩)] (enters 65 _ Tryd.func65 (by kernel_rfl) (by kernel_rfl)) (farV p) W (H.out.below (B2.out.trans (hW.mono B2.out.size))) (Lib.hid fun t ht n hn W2 hW2 => far_any n p (w.heap.size + 1) W2 w2 HZ.out (Lib.cell_of_heap X3 0) (hW.trans (hW2.mono hW.size))))
  rw [show (cas.any fun t => !tyB t) = !(cas.all tyB) by rw [List.not_all_eq_any_not]] at NO
  have R : rightC p ⟨cn, cav, cas⟩ = (nameB cn && decide (cas.length ≤ 8) && cas.all tyB && !hasP (farV p) ⟨cn, cav, cas⟩) := rfl
  have E : ∀ y, rightC p ⟨cn, cav, cas⟩ = y → Hid (∀ w', Below w.heap.size w w' → BRw (rightC p ⟨cn, cav, cas⟩) w (.returned (.bool y)) w') := fun y e => Lib.hid fun w' h => ⟨by rw [e], h⟩
  obtain ⟨lq, lc, rfl⟩ := h.form
  obtain ⟨M, hM⟩ : ∃ M, M = cas.length := ⟨_, rfl⟩
  have HW := Lib.hid hw2
  unfold BRw at RN NO HS
  unfold Ct.val at HS ⊢
  simp only at HS ⊢
  generalize hfh : hasP (farV p) ⟨cn, .slice lq cas.length lc, cas⟩ = yh at *
  rw [← hM] at R NO HS X2 X2H HW E ⊢
  generalize cas.all tyB = yt at *
  generalize nameB cn = yn at *
  have x20 := Lib.cell_of_heap X2 0
  have x21 := Lib.cell_of_heap X2 1
  simp only [List.getElem?_toArray, List.getElem?_cons_succ, List.getElem?_cons_zero] at x20 x21
  have hM9 : M ≤ 1000000 := by omega
  clear s1 s2 s3 h H X1 X2 X3 hz hw2 hfh
  cases yn with
  | false =>
    have E := E false (by rw [R]; rfl)
    generalize BRw (rightC p ⟨cn, .slice lq M lc, cas⟩) w = Z at *
    clear R HS hM
    go_enter Tryd.func48, Tryd.ntmps48
    go_wp2_with fail
    rw [← HW.out]
    refine (RN.out _).mono ?_
    rintro e w3 ⟨rfl, b3⟩
    have B3 := Lib.hid (B2.out.trans (b3.mono B2.out.size))
    have y20 := (b3.cell (p := ⟨w.heap.size, 0, none⟩) (by have := HZ.out; show w.heap.size < _; omega)).trans x20
    have y21 := (b3.cell (p := ⟨w.heap.size, 1, none⟩) (by have := HZ.out; show w.heap.size < _; omega)).trans x21
    have N3 := Lib.hid (NO.out w3 b3)
    have X3 := Lib.hid b3
    clear b3 x20 x21 RN NO
    clear N3 X3
    go_wp2
    first | go_ret | skip
    exact E.out _ B3.out
  | true =>
    by_cases h8 : M ≤ 8
    · have t8 : decide ((8 : Int) < (M : Int)) = false := by simp; omega
      cases yt with
      | false =>
        have E := E false (by rw [R]; simp)
        generalize BRw (rightC p ⟨cn, .slice lq M lc, cas⟩) w = Z at *
        clear R HS hM h8
        go_enter Tryd.func48, Tryd.ntmps48
        go_wp2_with fail
        rw [← HW.out]
        refine (RN.out _).mono ?_
        rintro e w3 ⟨rfl, b3⟩
        have B3 := Lib.hid (B2.out.trans (b3.mono B2.out.size))
        have y20 := (b3.cell (p := ⟨w.heap.size, 0, none⟩) (by have := HZ.out; show w.heap.size < _; omega)).trans x20
        have y21 := (b3.cell (p := ⟨w.heap.size, 1, none⟩) (by have := HZ.out; show w.heap.size < _; omega)).trans x21
        have N3 := Lib.hid (NO.out w3 b3)
        have X3 := Lib.hid b3
        clear b3 x20 x21 RN NO
        go_wp2_with fail
        refine N3.out.mono ?_
        rintro e w4 ⟨rfl, b4⟩
        have F := Lib.hid (E.out _ (B3.out.trans (b4.mono B3.out.size)))
        clear b4 N3 X3
        go_wp2
        first | go_ret | skip
        exact F.out
      | true =>
        have E := E (!yh) (by rw [R, decide_eq_true h8]; simp)
        generalize BRw (rightC p ⟨cn, .slice lq M lc, cas⟩) w = Z at *
        clear R hM h8
        go_enter Tryd.func48, Tryd.ntmps48
        go_wp2_with fail
        rw [← HW.out]
        refine (RN.out _).mono ?_
        rintro e w3 ⟨rfl, b3⟩
        have B3 := Lib.hid (B2.out.trans (b3.mono B2.out.size))
        have y20 := (b3.cell (p := ⟨w.heap.size, 0, none⟩) (by have := HZ.out; show w.heap.size < _; omega)).trans x20
        have y21 := (b3.cell (p := ⟨w.heap.size, 1, none⟩) (by have := HZ.out; show w.heap.size < _; omega)).trans x21
        have N3 := Lib.hid (NO.out w3 b3)
        have X3 := Lib.hid b3
        clear b3 x20 x21 RN NO
        go_wp2_with fail
        refine N3.out.mono ?_
        rintro e w4 ⟨rfl, b4⟩
        have B4 := Lib.hid (B3.out.trans (b4.mono B3.out.size))
        have z20 := (b4.cell (p := ⟨w.heap.size, 0, none⟩) (by have := HZ.out; have := X3.out.size; show w.heap.size < _; omega)).trans y20
        have z21 := (b4.cell (p := ⟨w.heap.size, 1, none⟩) (by have := HZ.out; have := X3.out.size; show w.heap.size < _; omega)).trans y21
        have H4 := Lib.hid (HS.out w4 (X3.out.trans (b4.mono X3.out.size)))
        clear b4 N3 X3 HS y20 y21
        go_wp2_with fail
        refine H4.out.mono ?_
        rintro e w5 ⟨rfl, b5⟩
        have F := Lib.hid (E.out _ (B4.out.trans (b5.mono B4.out.size)))
        clear b5 H4
        go_wp2
        first | go_ret | skip
        exact F.out
    · have t8 : decide ((8 : Int) < (M : Int)) = true := by simp; omega
      have E := E false (by rw [R, decide_eq_false h8]; simp)
      generalize BRw (rightC p ⟨cn, .slice lq M lc, cas⟩) w = Z at *
      clear R HS hM h8
      go_enter Tryd.func48, Tryd.ntmps48
      go_wp2_with fail
      rw [← HW.out]
      refine (RN.out _).mono ?_
      rintro e w3 ⟨rfl, b3⟩
      have B3 := Lib.hid (B2.out.trans (b3.mono B2.out.size))
      have y20 := (b3.cell (p := ⟨w.heap.size, 0, none⟩) (by have := HZ.out; show w.heap.size < _; omega)).trans x20
      have y21 := (b3.cell (p := ⟨w.heap.size, 1, none⟩) (by have := HZ.out; show w.heap.size < _; omega)).trans x21
      have N3 := Lib.hid (NO.out w3 b3)
      have X3 := Lib.hid b3
      clear b3 x20 x21 RN NO
      clear N3 X3
      go_wp2
      first | go_ret | skip
      exact E.out _ B3.out
/-- Is a declaration well-formed? -/
def rightD (d : Dt) : Bool := nameB d.name && decide (0 ≤ d.params) && decide (d.params ≤ 8) && decide (1 ≤ d.cons.length) && decide (d.cons.length ≤ 60) && d.cons.all (rightC d.params)
theorem right1_any (c : Ct) (p : Int) (b : Nat) (w : World) (h : ListsAt w c.av c.args) (hs : SmallC c) (hc : w.cell? ⟨b, 1, none⟩ = some (.int .i64 p)) (hb : b < w.heap.size) : Calls Tryd.prog 47 #[c.val, .pointer (some ⟨b, 0, none⟩)] w (BRw (!rightC p c) w) := by
  have BA : Hid (Below w.heap.size w (w.alloc (.cells #[.string c.name, c.av] 33))) := Lib.hid ((Below.refl _ _).alloc (Nat.le_refl _) _)
  have C := Lib.hid (fun W (hW : Below w.heap.size w W) => rctor_any c p W (h.below hW) hs)
  have X1 := heap_alloc_new w (.cells #[.string c.name, c.av] 33)
  have x0 := Lib.cell_of_heap X1 0
  have x1 := Lib.cell_of_heap X1 1
  have xb := (BA.out.cell (p := ⟨b, 1, none⟩) hb).trans hc
  obtain ⟨cn, cav, cas⟩ := c
  simp only [List.getElem?_toArray, List.getElem?_cons_succ, List.getElem?_cons_zero] at x0 x1 xb BA
  unfold Ct.val at C ⊢
  simp only at C ⊢
  have E : Hid (∀ w', Below w.heap.size w w' → BRw (!rightC p ⟨cn, cav, cas⟩) w (.returned (.bool (!rightC p ⟨cn, cav, cas⟩))) w') := Lib.hid fun w' h => ⟨rfl, h⟩
  unfold BRw at C
  generalize rightC p ⟨cn, cav, cas⟩ = y at *
  generalize BRw (!y) w = Z at *
  clear h hs X1 hc
  go_enter Tryd.func47, Tryd.ntmps47
  go_wp2_with fail
  refine (C.out _ BA.out).mono ?_
  rintro e w3 ⟨rfl, b3⟩
  have F := Lib.hid (E.out _ (BA.out.trans (b3.mono BA.out.size)))
  clear b3 C
  go_wp2
  first | go_ret | skip
  exact F.out
end Go.Proofs.YtncifeeinogcnaaDoor
