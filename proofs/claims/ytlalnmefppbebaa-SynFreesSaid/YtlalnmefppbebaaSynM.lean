/- Free. -/
import Derived.Test.YtlalnmefppbebaaSynL
namespace Go.Proofs.Ytlalnmefppbebaa
open Go.RowKit Go.Maps Go.Proofs.TreeMath
theorem run_store_fn (P : Program) (w : World) (a : Addr) (m : Mode) (f : Fn) (x y : Array Value) : (store a (.func f x y) m).run P w = stored P w a (.func f x y) m := run_store P w a _ m rfl
attribute [local go_sem] run_store_fn
/-- Each variable stands alone. -/
def F.lone : F → Prop
  | .nil => True
  | .cons n k r => (n.kind = 3 → k.cnt = 0) ∧ k.lone ∧ r.lone
theorem lone_of (f : F) : f.ok → ∀ q i, chkF f q i = 0 → f.lone := by
  induction f with
  | nil => intros; trivial
  | cons n k r hk hr =>
    rintro ⟨h1, h2, h3⟩ q i h
    simp only [chkF, or_eq_zero] at h
    obtain ⟨a, b, c⟩ := h
    refine ⟨fun h3' => ?_, hk h2 _ _ b, hr h3 _ _ c⟩
    unfold faultE at a
    split at a
    · rename_i hh
      simp only [Bool.and_eq_true] at hh
      have := hh.2
      rw [h3', h1] at this
      simp [kidsB] at this
      exact this
    · simp at a
theorem all_find (W : World) (nb tb tm bm : Nat) (ns : List Nd) (bd off cap : Nat) (hN : ns.length ≤ 4000) (hb : bd < W.heap.size) (hc : CellsIn W bd off (nodeCells ns)) (hat : NodesAt W (.slice (some ⟨bd, off, none⟩) ns.length cap) ns) (hW : wholeB (kk ns) = true) (ht : Tx ns) (f : F) :
    f.ok → f.lone → AllFG W (.slice (some ⟨bd, off, none⟩) ns.length cap) ns nb tb tm bm f := by
  induction f with
  | nil => intros; trivial
  | cons n k r hk hr =>
    rintro ⟨h1, h2, h3⟩ ⟨l1, l2, l3⟩
    exact ⟨find_good W nb tb tm bm ns bd off cap n k hN hb (Lib.hid hc) hat (Lib.hid hW) (Lib.hid ht) (Lib.hid (hk h2 l2)) (Lib.hid h1) (Lib.hid h2) (Lib.hid l1), hr h3 l3⟩
theorem push_get (a : Array Obj) (o : Obj) (i : Nat) (h : i < a.size) : (a.push o)[i]? = a[i]? := by rw [Array.getElem?_push_lt h, Array.getElem?_eq_getElem h]
def w5 (W : World) (o : Obj) : World := ((((W.alloc (.cells #[.slice none 0 0] 31)).alloc (.map #[] 0)).alloc (.cells #[.map (some (W.heap.size + 1))] 55)).alloc (.map #[] 0)).alloc o
theorem w5_heap (W : World) (o : Obj) : (w5 W o).heap[W.heap.size]? = some (.cells #[.slice none 0 0] 31 (0, 0)) ∧ (w5 W o).heap[W.heap.size + 1]? = some (.map #[] 0) ∧ (w5 W o).heap[W.heap.size + 2]? = some (.cells #[.map (some (W.heap.size + 1))] 55 (0, 0)) ∧ (w5 W o).heap[W.heap.size + 3]? = some (.map #[] 0) ∧ (w5 W o).heap[W.heap.size + 4]? = some o := by
  have h : ∀ (w : World) (o : Obj) (i : Nat), i = w.heap.size → (w.alloc o).heap[i]? = some o := by
    rintro w o i rfl
    show (w.heap.push o)[w.heap.size]? = _
    simp
  have g : ∀ (w : World) (o p : Obj) (i : Nat), w.heap[i]? = some p → (w.alloc o).heap[i]? = some p := fun w o p i hi => (Below.heap_alloc _ _ _ (lt_of_heap hi)).trans hi
  unfold w5
  exact ⟨g _ _ _ _ (g _ _ _ _ (g _ _ _ _ (g _ _ _ _ (h _ _ _ rfl)))), g _ _ _ _ (g _ _ _ _ (g _ _ _ _ (h _ _ _ (by simp)))), g _ _ _ _ (g _ _ _ _ (h _ _ _ (by simp))), g _ _ _ _ (h _ _ _ (by simp)), h _ _ _ (by simp)⟩
theorem w5_below (W : World) (o : Obj) : Below W.heap.size W (w5 W o) := by
  unfold w5
  exact ((((((Below.refl _ _).alloc (Nat.le_refl _) _).alloc (by simp) _).alloc (by simp; omega) _).alloc (by simp; omega) _)).alloc (by simp; omega) _
theorem set_at_empty {w : World} {b : Nat} (h : w.heap[b]? = some (.map #[] 0)) : SetAt w b 0 (fun _ => false) := by
  obtain ⟨D, ⟨es, cl, hb, r⟩, h2⟩ := SetAt.made w
  have e : (w.alloc (.map #[] 0)).heap[w.heap.size]? = some (.map #[] 0) := by
    show (w.heap.push _)[w.heap.size]? = _
    simp
  rw [e] at hb
  simp only [Option.some.injEq, Obj.map.injEq] at hb
  obtain ⟨rfl, rfl⟩ := hb
  exact ⟨D, ⟨#[], 0, h, r⟩, h2⟩
theorem fs_start (W : World) (o : Obj) : Fs W.heap.size W.heap.size (W.heap.size + 2) (W.heap.size + 1) (W.heap.size + 3) (fun _ => false) 0 0 (.slice none 0 0) [] (w5 W o) := by
  obtain ⟨a, b, c, d, _⟩ := w5_heap W o
  exact ⟨Nat.le_refl _, by omega, by omega, by omega, a, SRow.nil _ _, c, set_at_empty b, set_at_empty d, Nat.le_refl _⟩
/-- What is free: each once, or none. -/
def FreeIs (ns : List Nd) (ss : List ByteArray) : Prop := (∃ x, CheckIs ns 0 x ∧ x ≠ 0 ∧ ss = []) ∨ ∃ n k, n.kids = k.cnt ∧ k.ok ∧ n :: k.flat = ns ∧ synE (.cons n k .nil) 0 = 0 ∧ ss = addAll [] (freeT n k)
theorem synE_zero {f : F} {root : Int} (h : synE f root = 0) : f.sz ≤ 4000 ∧ deepF f ≤ 100 ∧ chkF f (fun _ => root) 0 = 0 ∧ twF f (fun _ => root) 0 = 0 := by
  unfold synE at h
  split at h
  · cases h
  · rename_i hh
    rw [or_eq_zero] at h
    exact ⟨by omega, by omega, h.1, h.2⟩
theorem free_ex (ns : List Nd) : ∃ ss, FreeIs ns ss := by
  obtain ⟨x, hx⟩ := check_ex ns 0
  by_cases h0 : x = 0
  · rcases hx with ⟨_, rfl⟩ | ⟨f, h1, h2, h3, h4⟩
    · cases h0
    · obtain ⟨n, k, rfl⟩ := one_of f h2
      exact ⟨_, .inr ⟨n, k, h1.1, h1.2.1, by rw [← h3, one_flat], by rw [← h4, h0], rfl⟩⟩
  · exact ⟨[], .inl ⟨x, hx, h0, rfl⟩⟩
set_option maxRecDepth 100000 in
set_option maxHeartbeats 2000000 in
theorem Free_any (v : Value) (ns : List Nd) (ss : List ByteArray) (w : World) (h : NodesAt w v ns) (hn : ns.length ≤ 100000) (ht : Tx ns) (hx : FreeIs ns ss) : Calls Try.prog 19 #[v] w (SRet ss w) := by
  rcases hx with ⟨x, hx, h0, rfl⟩ | ⟨n, k, h1, h2, h3, h4, rfl⟩
  · have C := Lib.hid (Check_any v ns x w h hn ht hx)
    obtain ⟨vp, vc, rfl⟩ : ∃ p c, v = .slice p ns.length c := by obtain ⟨_, p, c, hv, _⟩ := h; exact ⟨p, c, hv⟩
    have g : (x != 0) = true := by simpa using h0
    clear h hn ht hx h0
    go_enter Try.func19, Try.ntmps19
    go_wp2_with fail
    refine C.out.mono ?_
    rintro e w1 ⟨rfl, b1⟩
    have B1 := Lib.hid b1
    clear b1
    go_wp2_with fail
    go_ret
    exact ⟨_, rfl, StrsAt.nil _, B1.out⟩
  · have hok : (F.cons n k .nil).ok := ⟨h1, h2, trivial⟩
    have C := Lib.hid (Check_any v ns 0 w h hn ht (.inr ⟨.cons n k .nil, hok, rfl, by rw [one_flat, h3], h4.symm⟩))
    obtain ⟨z1, z2, z3, z4⟩ := synE_zero h4
    have hlen : ns.length ≤ 4000 := by rw [← h3, ← one_flat, F.flat_length]; exact z1
    have hW := whole_flat (.cons n k .nil) hok rfl
    rw [one_flat, h3] at hW
    have hlone := lone_of _ hok _ _ z3
    obtain ⟨bd, off, cap, rfl, hnc, hcm, hb, hc⟩ := nodes_slice' h (by rw [← h3]; simp)
    have FIND := Lib.hid (fun (W : World) (hW' : Below w.heap.size w W) (o : Obj) => (all_find W W.heap.size (W.heap.size + 2) (W.heap.size + 1) (W.heap.size + 3) ns bd off cap hlen (Nat.lt_of_lt_of_le hb hW'.size) (hc.kept (hW'.block bd hb)) (h.below hW') hW ht (.cons n k .nil) hok hlone).1 [] [] (fun _ => false) 0 0 (.slice none 0 0) [] (w5 W o) (by rw [← h3]; simp) (fs_start W o) (w5_below W o) (Nat.zero_le _) (Nat.le_refl _))
    have HR : Hid ((freeT n k).filter (fun _ => !false) = freeT n k) := Lib.hid (by simp)
    rw [HR.out] at FIND
    obtain ⟨M, hM⟩ : ∃ M, M = ns.length := ⟨_, rfl⟩
    rw [← hM] at C FIND ⊢
    clear h hn ht h1 h2 h3 h4 hok z1 z2 z3 z4 hlen hW hlone hnc hcm hb hc hM HR
    have hmm := @run_makeMap Try.prog
    go_enter Try.func19, Try.ntmps19
    go_wp2_with fail
    refine C.out.mono ?_
    rintro e w1 ⟨rfl, b1⟩
    have B1 := Lib.hid b1
    clear b1
    have F1 := Lib.hid (FIND.out w1 B1.out (fdObj (.slice (some ⟨bd, off, none⟩) M cap) w1.heap.size (w1.heap.size + 2) (w1.heap.size + 3)))
    obtain ⟨X, hX⟩ : ∃ X, X = w1.heap.size := ⟨_, rfl⟩
    have HX := Lib.hid hX
    unfold fdV w5 fdObj at F1
    have e2 : w1.heap.size + 1 + 1 = w1.heap.size + 2 := rfl
    go_wp2_with fail
    refine F1.out.mono ?_
    rintro e w6 ⟨rfl, v6, fs6, tr6⟩
    obtain ⟨vp, vc, hv⟩ := strs_form fs6.row.at
    subst hv
    have FS6 := Lib.hid fs6
    have TR6 := Lib.hid tr6
    have c6 := Lib.cell_of_heap fs6.names 0
    simp only [List.getElem?_toArray, List.getElem?_cons_zero] at c6
    clear fs6 tr6 e2 hX
    go_wp2_with fail
    go_ret
    refine ⟨_, rfl, FS6.out.row.at, B1.out.trans ?_⟩
    refine Below.mono ?_ B1.out.size
    exact (w5_below w1 (fdObj (.slice (some ⟨bd, off, none⟩) M cap) w1.heap.size (w1.heap.size + 2) (w1.heap.size + 3))).trans TR6.out.below
end Go.Proofs.Ytlalnmefppbebaa
