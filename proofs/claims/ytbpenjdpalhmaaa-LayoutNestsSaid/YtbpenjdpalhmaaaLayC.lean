/- The program's Check: right, Check. -/
import Derived.Test.YtbpenjdpalhmaaaLayL
import Derived.Test.YtbpenjdpalhmaaaMake
import Derived.Deep.QuietTactic
import Derived.BigQuiet
import Derived.IntWalk
namespace Go.Proofs.Ytbpenjdpalhmaaa
open Go.Shelf Go.RowKit Go.Lib Go.Sort Go.Proofs.TreeMath
/-- A function that returns a bool. -/
def RB (b : Bool) (W : World) (e : Ending) (w' : World) : Prop := e = .returned (.bool b) ∧ Below W.heap.size W w'
theorem node_cells (w : World) (k : Int) (s : ByteArray) (m d : Int) : (w.alloc (.cells #[.int .i64 k, .string s, .int .i64 m, .int .i64 d] 38)).heap[w.heap.size]? = some (.cells #[.int .i64 k, .string s, .int .i64 m, .int .i64 d] 38 (0, 0)) := by
  show (w.heap.push _)[w.heap.size]? = _
  simp
theorem ok41 (s : ByteArray) (m d : Int) : okN ⟨41, s, m, d⟩ = (plainB s && decide (m = 0) && decide (d = 0)) := by simp [okN]
theorem ok42 (s : ByteArray) (m d : Int) : okN ⟨42, s, m, d⟩ = (decide (s = ByteArray.empty) && decide (m = 0) && decide (d = 0)) := by simp [okN]
theorem ok43 (s : ByteArray) (m d : Int) : okN ⟨43, s, m, d⟩ = (decide (s = ByteArray.empty) && decide (0 ≤ m) && decide (m ≤ 40) && decide (d = 1)) := by simp [okN]
theorem ok44 (s : ByteArray) (m d : Int) : okN ⟨44, s, m, d⟩ = (decide (s = ByteArray.empty) && decide (m = 0) && decide (d = 1)) := by simp [okN]
theorem ok45 (s : ByteArray) (m d : Int) : okN ⟨45, s, m, d⟩ = (decide (s = ByteArray.empty) && decide (m = 0)) := by simp [okN]
theorem ok_other (k : Int) (s : ByteArray) (m d : Int) (h1 : k ≠ 41) (h2 : k ≠ 42) (h3 : k ≠ 43) (h4 : k ≠ 44) (h5 : k ≠ 45) : okN ⟨k, s, m, d⟩ = false := by simp [okN, h1, h2, h3, h4, h5]
theorem right_other (k : Int) (s : ByteArray) (m d : Int) (w : World) (h1 : k ≠ 41) (h2 : k ≠ 42) (h3 : k ≠ 43) (h4 : k ≠ 44) (h5 : k ≠ 45) : Calls Try.prog 28 #[.agg #[.int .i64 k, .string s, .int .i64 m, .int .i64 d]] w (RB false w) := by
  have e1 : (k == 41) = false := by simpa using h1
  have e2 : (k == 42) = false := by simpa using h2
  have e3 : (k == 43) = false := by simpa using h3
  have e4 : (k == 44) = false := by simpa using h4
  have e5 : (k == 45) = false := by simpa using h5
  go_enter Try.func28, Try.ntmps28
  go_wp2
  go_ret
  exact ⟨rfl, (Below.refl _ _).alloc (Nat.le_refl _) _⟩
theorem toList_ne {s : ByteArray} (h : ¬ s = ByteArray.empty) : ¬ s.toList = [] := by
  rw [ByteArray.toList_eq]
  intro e
  apply h
  obtain ⟨d⟩ := s
  have : d = #[] := by simpa using e
  rw [this]
  rfl
theorem right_42 (s : ByteArray) (m d : Int) (w : World) : Calls Try.prog 28 #[.agg #[.int .i64 42, .string s, .int .i64 m, .int .i64 d]] w (RB (okN ⟨42, s, m, d⟩) w) := by
  rw [ok42]
  by_cases hs : s = ByteArray.empty
  · subst hs
    by_cases hm : m = 0
    · subst hm
      by_cases hd : d = 0
      · subst hd
        go_enter Try.func28, Try.ntmps28
        go_wp2
        go_ret
        exact ⟨by simp, (Below.refl _ _).alloc (Nat.le_refl _) _⟩
      · have e2 : (d == 0) = false := by simpa using hd
        go_enter Try.func28, Try.ntmps28
        go_wp2
        go_ret
        exact ⟨by simp [hd], (Below.refl _ _).alloc (Nat.le_refl _) _⟩
    · have e1 : (m == 0) = false := by simpa using hm
      go_enter Try.func28, Try.ntmps28
      go_wp2
      go_ret
      exact ⟨by simp [hm], (Below.refl _ _).alloc (Nat.le_refl _) _⟩
  · have e1 := toList_ne hs
    go_enter Try.func28, Try.ntmps28
    go_wp2
    go_ret
    exact ⟨by simp [hs], (Below.refl _ _).alloc (Nat.le_refl _) _⟩
theorem right_43 (s : ByteArray) (m d : Int) (w : World) : Calls Try.prog 28 #[.agg #[.int .i64 43, .string s, .int .i64 m, .int .i64 d]] w (RB (okN ⟨43, s, m, d⟩) w) := by
  rw [ok43]
  by_cases hs : s = ByteArray.empty
  · subst hs
    by_cases h0 : 0 ≤ m
    · by_cases h1 : m ≤ 40
      · by_cases hd : d = 1
        · subst hd
          go_enter Try.func28, Try.ntmps28
          go_wp2
          go_ret
          exact ⟨by simp [h0, h1], (Below.refl _ _).alloc (Nat.le_refl _) _⟩
        · have e2 : (d == 1) = false := by simpa using hd
          go_enter Try.func28, Try.ntmps28
          go_wp2
          go_ret
          exact ⟨by simp [h0, h1, hd], (Below.refl _ _).alloc (Nat.le_refl _) _⟩
      · go_enter Try.func28, Try.ntmps28
        go_wp2
        go_ret
        exact ⟨by simp; omega, (Below.refl _ _).alloc (Nat.le_refl _) _⟩
    · go_enter Try.func28, Try.ntmps28
      go_wp2
      go_ret
      exact ⟨by simp; omega, (Below.refl _ _).alloc (Nat.le_refl _) _⟩
  · have e1 := toList_ne hs
    go_enter Try.func28, Try.ntmps28
    go_wp2
    go_ret
    exact ⟨by simp [hs], (Below.refl _ _).alloc (Nat.le_refl _) _⟩
theorem right_44 (s : ByteArray) (m d : Int) (w : World) : Calls Try.prog 28 #[.agg #[.int .i64 44, .string s, .int .i64 m, .int .i64 d]] w (RB (okN ⟨44, s, m, d⟩) w) := by
  rw [ok44]
  by_cases hs : s = ByteArray.empty
  · subst hs
    by_cases hm : m = 0
    · subst hm
      by_cases hd : d = 1
      · subst hd
        go_enter Try.func28, Try.ntmps28
        go_wp2
        go_ret
        exact ⟨by simp, (Below.refl _ _).alloc (Nat.le_refl _) _⟩
      · have e2 : (d == 1) = false := by simpa using hd
        go_enter Try.func28, Try.ntmps28
        go_wp2
        go_ret
        exact ⟨by simp [hd], (Below.refl _ _).alloc (Nat.le_refl _) _⟩
    · have e1 : (m == 0) = false := by simpa using hm
      go_enter Try.func28, Try.ntmps28
      go_wp2
      go_ret
      exact ⟨by simp [hm], (Below.refl _ _).alloc (Nat.le_refl _) _⟩
  · have e1 := toList_ne hs
    go_enter Try.func28, Try.ntmps28
    go_wp2
    go_ret
    exact ⟨by simp [hs], (Below.refl _ _).alloc (Nat.le_refl _) _⟩
theorem right_45 (s : ByteArray) (m d : Int) (w : World) : Calls Try.prog 28 #[.agg #[.int .i64 45, .string s, .int .i64 m, .int .i64 d]] w (RB (okN ⟨45, s, m, d⟩) w) := by
  rw [ok45]
  by_cases hs : s = ByteArray.empty
  · subst hs
    by_cases hm : m = 0
    · subst hm
      go_enter Try.func28, Try.ntmps28
      go_wp2
      go_ret
      exact ⟨by simp, (Below.refl _ _).alloc (Nat.le_refl _) _⟩
    · have e1 : (m == 0) = false := by simpa using hm
      go_enter Try.func28, Try.ntmps28
      go_wp2
      go_ret
      exact ⟨by simp [hm], (Below.refl _ _).alloc (Nat.le_refl _) _⟩
  · have e1 := toList_ne hs
    go_enter Try.func28, Try.ntmps28
    go_wp2
    go_ret
    exact ⟨by simp [hs], (Below.refl _ _).alloc (Nat.le_refl _) _⟩
theorem right_41 (s : ByteArray) (m d : Int) (w : World) : Calls Try.prog 28 #[.agg #[.int .i64 41, .string s, .int .i64 m, .int .i64 d]] w (RB (okN ⟨41, s, m, d⟩) w) := by
  rw [ok41]
  obtain ⟨b, hb⟩ : ∃ b, b = plainB s := ⟨_, rfl⟩
  have C := Lib.hid (fun W => plain_any s W)
  rw [← hb] at C ⊢
  clear hb
  cases b <;> by_cases hm : m = 0 <;> by_cases hd : d = 0
  all_goals
    have hm' := Lib.hid hm
    have hd' := Lib.hid hd
    have e1 : (m == 0) = decide (m = 0) := by by_cases m = 0 <;> simp [*]
    have e2 : (d == 0) = decide (d = 0) := by by_cases d = 0 <;> simp [*]
    first | rw [decide_eq_true hm] at e1 | rw [decide_eq_false hm] at e1
    first | rw [decide_eq_true hd] at e2 | rw [decide_eq_false hd] at e2
    clear hm hd
    go_enter Try.func28, Try.ntmps28
    go_wp2_with fail
    refine (C.out _).mono ?_
    rintro e w1 ⟨rfl, b1⟩
    have c2 := (b1.cell (p := ⟨w.heap.size, 2, none⟩) (by simp)).trans (Lib.cell_of_heap (node_cells w 41 s m d) 2)
    have c3 := (b1.cell (p := ⟨w.heap.size, 3, none⟩) (by simp)).trans (Lib.cell_of_heap (node_cells w 41 s m d) 3)
    simp only [List.getElem?_toArray, List.getElem?_cons_succ, List.getElem?_cons_zero] at c2 c3
    have B1 := Lib.hid b1
    clear b1
    go_wp2
    go_ret
    exact ⟨by simp [hm'.out, hd'.out], ((Below.refl _ _).alloc (Nat.le_refl _) _).trans (B1.out.mono (by simp))⟩
theorem right_any (n : Nd) (w : World) : Calls Try.prog 28 #[n.val] w (RB (okN n) w) := by
  obtain ⟨k, s, m, d⟩ := n
  show Calls Try.prog 28 #[.agg #[.int .i64 k, .string s, .int .i64 m, .int .i64 d]] w (RB (okN ⟨k, s, m, d⟩) w)
  by_cases h1 : k = 41
  · subst h1; exact right_41 s m d w
  by_cases h2 : k = 42
  · subst h2; exact right_42 s m d w
  by_cases h3 : k = 43
  · subst h3; exact right_43 s m d w
  by_cases h4 : k = 44
  · subst h4; exact right_44 s m d w
  by_cases h5 : k = 45
  · subst h5; exact right_45 s m d w
  rw [ok_other k s m d h1 h2 h3 h4 h5]
  exact right_other k s m d w h1 h2 h3 h4 h5
/-- A node whose cells lie in a world. -/
theorem CellsIn.node_at {w : World} {b off : Nat} {ns : List Nd} (h : CellsIn w b off (nodeCells ns)) (j : Nat) (hj : j < ns.length) (i : Nat) (v : Value) (hi : (Nd.cells ns[j]!)[i]? = some v) : w.cell? ⟨b, off + j * 4 + i, none⟩ = some v := by
  have hi4 : i < 4 := by
    have : i < (Nd.cells ns[j]!).length := by
      rcases Nat.lt_or_ge i (Nd.cells ns[j]!).length with h' | h'
      · exact h'
      · rw [List.getElem?_eq_none h'] at hi; cases hi
    exact this
  have e := nodeCells_get ns j hj i hi4
  rw [getElem!_pos ns j hj] at hi
  rw [List.getD_eq_getElem?_getD, List.getElem?_eq_getElem hj, Option.getD_some, hi] at e
  have := h _ _ e
  rwa [← Nat.add_assoc] at this
theorem wrong_any (n : Nd) (W w : World) (hb : Below w.heap.size w W) : Calls Try.prog 27 #[n.val] W fun e w' => e = .returned (.bool (!okN n)) ∧ Below w.heap.size w w' := by
  have C := Lib.hid (fun W => right_any n W)
  have HB := Lib.hid hb
  obtain ⟨k, s, m, d⟩ := n
  have hn := node_cells W k s m d
  have c0 := Lib.cell_of_heap hn 0
  have c1 := Lib.cell_of_heap hn 1
  have c2 := Lib.cell_of_heap hn 2
  have c3 := Lib.cell_of_heap hn 3
  simp only [List.getElem?_toArray, List.getElem?_cons_succ, List.getElem?_cons_zero] at c0 c1 c2 c3
  clear hn hb
  generalize okN ⟨k, s, m, d⟩ = r at *
  show Calls Try.prog 27 #[.agg #[.int .i64 k, .string s, .int .i64 m, .int .i64 d]] W _
  go_enter Try.func27, Try.ntmps27
  go_wp2_with fail
  refine (C.out _).mono ?_
  rintro e w1 ⟨rfl, b1⟩
  have B1 := Lib.hid b1
  clear b1
  go_wp2
  go_ret
  exact ⟨rfl, (HB.out.alloc HB.out.size _).trans (B1.out.mono (by have := HB.out.size; simp; omega))⟩
theorem IndexFunc_zero (g : Value) (p : Option Addr) (c : Nat) (w : World) : Calls Try.prog 43 #[.slice p 0 c, g] w fun e w' => e = .returned (.int .i64 (-1)) ∧ w = w' := by
  go_enter Try.func43, Try.ntmps43
  go_wp2
  refine wp_loop_rounds 1 ?_
  rw [rounds_succ]
  go_wp2
  go_ret
  exact ⟨rfl, rfl⟩
theorem contains_zero (p : Option Addr) (c : Nat) (g : Value) (w : World) : Calls Try.prog 30 #[.slice p 0 c, g] w fun e w' => e = .returned (.bool false) ∧ w = w' := by
  go_enter Try.func30, Try.ntmps30
  go_wp2_with fail
  refine (IndexFunc_zero _ _ _ _).mono ?_
  rintro e w1 ⟨rfl, rfl⟩
  go_wp2
  go_ret
  exact ⟨rfl, rfl⟩
theorem contains_some (b off n c : Nat) (ns : List Nd) (w : World) (hl : ns.length = n) (hn : n ≤ 1000000) (hb : b < w.heap.size) (hc : CellsIn w b off (nodeCells ns)) : Calls Try.prog 30 #[.slice (some ⟨b, off, none⟩) n c, .func (.func 27) #[] #[]] w (RB (ns.any fun f => !okN f) w) := by
  have eg : ∀ args w, (callFunc 27 args).run Try.prog w = .ok (.enter 27 args) w := enters_of Try.func27 (by kernel_rfl) rfl
  have hcon := AnyQ.slices_ContainsFunc containsLays 4 Try.isAgg38 Try.sizeOf38 (fun x : Nd => Nd.cells x) (fun _ => rfl) (fun x : Nd => !okN x) 27 #[] eg b off n c ns w
    (fun W x hW => wrong_any x W w hW) (by omega) (by omega) hb (fun j hj i v hi => hc.node_at j hj i v hi)
  change Calls Try.prog 30 _ _ _ at hcon
  rw [List.take_of_length_le (by omega)] at hcon
  exact hcon
theorem contains_any (v : Value) (ns : List Nd) (w : World) (h : NodesAt w v ns) (hn : ns.length ≤ 1000000) : Calls Try.prog 30 #[v, .func (.func 27) #[] #[]] w (RB (ns.any fun f => !okN f) w) := by
  obtain ⟨_, p, c, rfl, _, _, hp⟩ := h
  rcases ns with _ | ⟨x, ns⟩
  · exact (contains_zero p c _ w).mono fun e w' ⟨he, hw⟩ => ⟨he, by rw [← hw]; exact Below.refl _ _⟩
  · obtain ⟨b, off, rfl, hb, hc⟩ := hp (by simp)
    exact contains_some b off _ c (x :: ns) w rfl hn hb hc
/-- A function that returns an error's number. -/
def RI (x : Int) (W : World) (e : Ending) (w' : World) : Prop := e = .returned (.int .i64 x) ∧ Below W.heap.size W w'
def chkI (ns : List Nd) : Int := if docB ns = true then 0 else 50
theorem docB_long (ns : List Nd) (h : 4000 < ns.length) : docB ns = false := by simp [docB]; omega
theorem docB_whole (ns : List Nd) (h : wholeB (kk ns) = false) : docB ns = false := by simp [docB, h]
theorem docB_right (ns : List Nd) (h : (ns.any fun f => !okN f) = true) : docB ns = false := by
  have : ns.all okN = false := by
    rw [← Bool.not_eq_true, List.all_eq_true]
    intro ha
    obtain ⟨x, hx, hn⟩ := List.any_eq_true.1 h
    rw [ha x hx] at hn
    simp at hn
  simp [docB, this]
theorem docB_yes (ns : List Nd) (h4 : ¬ 4000 < ns.length) (hw : wholeB (kk ns) = true) (h : (ns.any fun f => !okN f) = false) : docB ns = true := by
  have : ns.all okN = true := by
    rw [List.all_eq_true]
    intro x hx
    have := (List.any_eq_false.1 h) x hx
    simpa using this
  simp [docB, this, hw]; omega
set_option maxHeartbeats 1000000 in
theorem check_any (v : Value) (ns : List Nd) (w : World) (h : NodesAt w v ns) (hn : ns.length ≤ 1000000) : Calls Try.prog 14 #[v] w (RI (chkI ns) w) := by
  obtain ⟨p, c, hv⟩ : ∃ p c, v = .slice p ns.length c := by obtain ⟨_, p, c, hv, _⟩ := h; exact ⟨p, c, hv⟩
  subst hv
  have W1 := Lib.hid (fun W (hW : Below w.heap.size w W) => whole_any _ ns W (h.below hW) hn)
  have C1 := Lib.hid (fun W (hW : Below w.heap.size w W) => contains_any _ ns W (h.below hW) hn)
  by_cases h4 : 4000 < ns.length
  · rw [show chkI ns = 50 by unfold chkI; rw [docB_long ns h4]; rfl]
    have g : decide ((4000 : Int) < (ns.length : Int)) = true := by simp; omega
    clear hn
    go_enter Try.func14, Try.ntmps14
    go_wp2
    go_ret
    exact ⟨rfl, Below.refl _ _⟩
  · have g : decide ((4000 : Int) < (ns.length : Int)) = false := by simp; omega
    have H4 := Lib.hid h4
    clear h4 hn
    cases hw : wholeB (kk ns)
    · rw [show chkI ns = 50 by unfold chkI; rw [docB_whole ns hw]; rfl]
      rw [hw] at W1
      clear hw
      go_enter Try.func14, Try.ntmps14
      go_wp2_with fail
      refine (W1.out _ (Below.refl _ _)).mono ?_
      rintro e w1 ⟨rfl, rfl⟩
      go_wp2
      go_ret
      exact ⟨rfl, Below.refl _ _⟩
    · have HW := Lib.hid hw
      rw [hw] at W1
      clear hw
      cases hr : ns.any fun f => !okN f
      · rw [show chkI ns = 0 by unfold chkI; rw [docB_yes ns H4.out HW.out hr]; rfl]
        rw [hr] at C1
        clear hr
        go_enter Try.func14, Try.ntmps14
        go_wp2_with fail
        refine (W1.out _ (Below.refl _ _)).mono ?_
        rintro e w1 ⟨rfl, rfl⟩
        go_wp2_with fail
        refine (C1.out _ (Below.refl _ _)).mono ?_
        rintro e w1 ⟨rfl, b1⟩
        have B1 := Lib.hid b1
        clear b1
        go_wp2
        go_ret
        exact ⟨rfl, B1.out⟩
      · rw [show chkI ns = 50 by unfold chkI; rw [docB_right ns hr]; rfl]
        rw [hr] at C1
        clear hr
        go_enter Try.func14, Try.ntmps14
        go_wp2_with fail
        refine (W1.out _ (Below.refl _ _)).mono ?_
        rintro e w1 ⟨rfl, rfl⟩
        go_wp2_with fail
        refine (C1.out _ (Below.refl _ _)).mono ?_
        rintro e w1 ⟨rfl, b1⟩
        have B1 := Lib.hid b1
        clear b1
        go_wp2
        go_ret
        exact ⟨rfl, B1.out⟩
end Go.Proofs.Ytbpenjdpalhmaaa
