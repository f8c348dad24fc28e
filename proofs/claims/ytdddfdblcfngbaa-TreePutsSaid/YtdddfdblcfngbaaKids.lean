/- tree.Kids: the search with the function that gathers the kids. -/
import Derived.Test.YtdddfdblcfngbaaKidsFn
namespace Go.Proofs.Ytdddfdblcfngbaa
open Go.RowKit Go.Proofs.TreeMath
def ofNats (xs : List Nat) : List Int := xs.map Int.ofNat
/-- What stands while the kids of the node at t are gathered: W the world at the call; the block of the list at H, of the index at H + 1, of the kids at H + 2. -/
structure KMem (W : World) (b off n c t : Nat) (outs : List Nat) (w : World) : Prop where
  below : Below W.heap.size W w
  blkB : w.heap[W.heap.size]? = some (.cells #[.slice (some ⟨b, off, none⟩) n c] 22 (0, 0))
  blkA : w.heap[W.heap.size + 1]? = some (.cells #[.int .i64 t] 3 (0, 0))
  kids : ∃ p cap, w.heap[W.heap.size + 1 + 1]? = some (.cells #[.slice p outs.length cap] 31 (0, 0)) ∧ w.ownsRow (W.heap.size + 3) 3 1 (.slice p outs.length cap) outs.length (intCells (ofNats outs))
  size : W.heap.size + 3 ≤ w.heap.size
theorem KMem.drew {W : World} {b off n c t : Nat} {outs : List Nat} {w : World} (h : KMem W b off n c t outs w) : KMem W b off n c t outs w.drew := by
  obtain ⟨h1, h2, h3, h4, h5⟩ := h
  exact ⟨h1.drew, h2, h3, h4, h5⟩
/-- Ahead of the function (r may be 0), and behind it (lo = 1). -/
def KInv (W : World) (b off n c t : Nat) (ks : List Int) (lo m o : Nat) (w : World) : Prop :=
  ∃ outs, KMem W b off n c t outs w ∧ ((m = t ∧ o = 1 ∧ outs = []) ∨ (t < m ∧ 0 ≤ ks.getD t 0 ∧ ∃ r, lo ≤ r ∧ o + outs.length = (ks.getD t 0).toNat + r ∧ outs.length ≤ (ks.getD t 0).toNat ∧ ((ks.getD t 0).toNat ≤ n ∨ (m = t + 1 ∧ outs = [] ∧ r = 0)) ∧
    (0 ≤ fin ks t 1 → outs ++ starts ks (fin ks m r).toNat ((ks.getD t 0).toNat - outs.length) = starts ks (t + 1) (ks.getD t 0).toNat)))
def KDone (W : World) (ks : List Int) (t : Nat) (w : World) : Prop :=
  Below W.heap.size W w ∧ (0 ≤ fin ks t 1 → ∃ p cap, w.heap[W.heap.size + 1 + 1]? = some (.cells #[.slice p (starts ks (t + 1) (ks.getD t 0).toNat).length cap] 31 (0, 0)) ∧
    w.ownsRow (W.heap.size + 3) 3 1 (.slice p (starts ks (t + 1) (ks.getD t 0).toNat).length cap) (starts ks (t + 1) (ks.getD t 0).toNat).length (intCells (ofNats (starts ks (t + 1) (ks.getD t 0).toNat))))
theorem kinv_go {W : World} {b off n c t : Nat} {ks : List Int} (hl : ks.length = n) (m o : Nat) (w : World) (hm : m < n) (h : KInv W b off n c t ks 1 m (o + 1) w) (hk : 0 ≤ ks.getD m 0) : KInv W b off n c t ks 0 (m + 1) (o + (ks.getD m 0).toNat) w := by
  obtain ⟨outs, hM, ⟨rfl, ho, rfl⟩ | ⟨htm, hk0, r, hr, ho, hj, hn, hs⟩⟩ := h
  · exact ⟨[], hM, .inr ⟨by omega, hk, 0, by omega, by simp; omega, by simp, .inr ⟨rfl, rfl, rfl⟩, fun _ => by simp [fin_zero]⟩⟩
  · obtain ⟨r, rfl⟩ : ∃ q, r = q + 1 := ⟨r - 1, by omega⟩
    refine ⟨outs, hM, .inr ⟨by omega, hk0, r + (ks.getD m 0).toNat, by omega, by omega, hj, .inl (by omega), fun hf => ?_⟩⟩
    rw [← hs hf, fin_step ks m r (by omega) hk]
theorem kinv_next {W : World} {b off n c t : Nat} {ks : List Int} (hl : ks.length = n) (hn : n ≤ 1000000) (ht : t < n) (hb : b < W.heap.size) (hcell : W.cell? ⟨b, off + t * 4 + 3, none⟩ = some (.int .i64 (ks.getD t 0))) (m o : Nat) (oi : Int) (w : World) (hm : m < n) (hom : o + 1 ≤ n - m) (hoi : oi = ((o + 1 : Nat) : Int)) (h : KInv W b off n c t ks 0 m (o + 1) w) :
    Calls Try.prog 31 (#[.int .i64 m, .int .i64 oi] ++ #[.pointer (some ⟨W.heap.size + 1, 0, none⟩), .pointer (some ⟨W.heap.size, 0, none⟩), .pointer (some ⟨W.heap.size + 1 + 1, 0, none⟩)]) w fun e w' => e = .returned (.bool false) ∧ KInv W b off n c t ks 1 m (o + 1) w' := by
  obtain ⟨outs, hM, hh⟩ := h
  obtain ⟨p, cap, hC, hown⟩ := hM.kids
  have hA := cell_of_one hM.blkA
  have hB := cell_of_one hM.blkB
  have hC2 := cell_of_one hC
  have hk := (hM.below.cell (p := ⟨b, off + t * 4 + 3, none⟩) hb).trans hcell
  rcases hh with ⟨rfl, ho, rfl⟩ | ⟨htm, hk0, r, hr, ho, hj, hn', hs⟩
  · refine (kids_a m oi m _ _ _ w hA (decide_eq_false (by omega)) (beq_eq_false_iff_ne.2 (by omega))).mono ?_
    rintro e w' ⟨rfl, rfl⟩
    exact ⟨rfl, [], hM.drew, .inl ⟨rfl, ho, rfl⟩⟩
  · have hK : (ks.getD t 0).toNat ≤ n := by
      rcases hn' with h | ⟨h1, h2, h3⟩
      · exact h
      · rw [h2, h3, List.length_nil] at ho
        clear hs hj hk hA hB hC
        omega
    rcases Nat.eq_zero_or_pos r with rfl | hr0
    · refine (kids_d m oi (ks.getD t 0) t _ _ _ b off n c outs.length cap p w hA hB hC hk (decide_eq_true (by omega)) (decide_eq_true (by omega)) (beq_eq_false_iff_ne.2 (by omega)) (by omega) hk0 (by omega) ht (beq_iff_eq.2 (by omega)) (W.heap.size + 3) W.heap.size _ hown (by omega) hM.size (by omega)).mono ?_
      rintro e w' ⟨rfl, p', cap', h1, h2, h3, h4⟩
      refine ⟨rfl, outs ++ [m], ⟨hM.below.trans h3, (h4 _ (by omega) (by omega)).trans hM.blkB, (h4 _ (by omega) (by omega)).trans hM.blkA, ⟨p', cap', by simpa using h1, ?_⟩, Nat.le_trans hM.size h3.size⟩, .inr ⟨htm, hk0, 1, by omega, by rw [List.length_append, List.length_singleton]; omega, by rw [List.length_append, List.length_singleton]; omega, .inl hK, fun hf => ?_⟩⟩
      · simpa [ofNats, intCells] using h2
      · rw [← hs hf, fin_zero, Int.toNat_natCast, show (ks.getD t 0).toNat - outs.length = ((ks.getD t 0).toNat - (outs.length + 1)) + 1 by omega, starts_succ]
        simp
    · refine (kids_c m oi (ks.getD t 0) t _ _ _ b off n c outs.length cap p w hA hB hC2 hk (decide_eq_true (by omega)) (decide_eq_true (by omega)) (beq_eq_false_iff_ne.2 (by omega)) (by omega) hk0 (by omega) ht (beq_eq_false_iff_ne.2 (by omega))).mono ?_
      rintro e w' ⟨rfl, rfl⟩
      exact ⟨rfl, outs, hM.drew, .inr ⟨htm, hk0, r, hr0, ho, hj, .inl hK, hs⟩⟩
theorem kinv_found {W : World} {b off n c t : Nat} {ks : List Int} (m : Nat) (w : World) (h : KInv W b off n c t ks 0 m 0 w) :
    Calls Try.prog 31 (#[.int .i64 m, .int .i64 0] ++ #[.pointer (some ⟨W.heap.size + 1, 0, none⟩), .pointer (some ⟨W.heap.size, 0, none⟩), .pointer (some ⟨W.heap.size + 1 + 1, 0, none⟩)]) w fun e w' => e = .returned (.bool true) ∧ KDone W ks t w' := by
  obtain ⟨outs, hM, ⟨_, ho, _⟩ | ⟨htm, hk0, r, hr, ho, hj, hn', hs⟩⟩ := h
  · omega
  · refine (kids_b m t _ _ _ w (cell_of_one hM.blkA) (by simpa using htm)).mono ?_
    rintro e w' ⟨rfl, rfl⟩
    refine ⟨rfl, hM.below.drew, fun hf => ?_⟩
    have h0 : (ks.getD t 0).toNat - outs.length = 0 := by omega
    have h1 := hs hf
    rw [h0] at h1
    simp [starts] at h1
    have h2 := hM.drew.kids
    rw [h1] at h2
    simpa using h2
theorem ints_nil (w : World) (v : Value) (h : v = .slice none 0 0) : IntsAt w v (ofNats []) := by subst h; exact SliceAt.nil w 1
set_option maxHeartbeats 1000000 in
theorem search_kids (b off n c t : Nat) (ks : List Int) (W w : World) (ht : t < n) (hn : n ≤ 1000000) (hl : ks.length = n) (hb : b < W.heap.size) (hc : ∀ m, m < n → W.cell? ⟨b, off + m * 4 + 3, none⟩ = some (.int .i64 (ks.getD m 0))) (h0 : KMem W b off n c t [] w) :
    Calls Try.prog 29 #[.slice (some ⟨b, off, none⟩) n c, .int .i64 t, .func (.func 31) #[] #[.pointer (some ⟨W.heap.size + 1, 0, none⟩), .pointer (some ⟨W.heap.size, 0, none⟩), .pointer (some ⟨W.heap.size + 1 + 1, 0, none⟩)]] w
      (Done (KDone W ks t) (Below W.heap.size W) (fin ks t 1)) := by
  refine search_any b off n c t ks w ht hn hl 31 _ call31 (KInv W b off n c t ks 0) (KInv W b off n c t ks 1) (KDone W ks t) (Below W.heap.size W) ⟨[], h0, .inl ⟨rfl, rfl, rfl⟩⟩ ?_ ?_ ?_ ?_ ?_
  · rintro m o w' ⟨_, hM, _⟩ hm
    exact (hM.below.cell (p := ⟨b, off + m * 4 + 3, none⟩) hb).trans (hc m hm)
  · intro m w' _ h
    exact kinv_found m w' h
  · intro m o oi w' h1 h2 h3 h4
    exact kinv_next hl hn ht hb (hc t ht) m o oi w' h1 h2 h3 h4
  · intro m o w' h1 h2 h3
    exact kinv_go hl m o w' h1 h2 h3
  · rintro m o w' ⟨_, hM, _⟩
    exact hM.below
theorem alloc_at (w : World) (o : Obj) : (w.alloc o).heap[w.heap.size]? = some o := by
  show (w.heap.push o)[w.heap.size]? = some o
  simp
theorem alloc_at' (w : World) (o : Obj) (k : Nat) (h : k = w.heap.size) : (w.alloc o).heap[k]? = some o := by
  subst h
  exact alloc_at w o
theorem kmem_start (W : World) (b off n c t : Nat) : KMem W b off n c t [] (((W.alloc (.cells #[.slice (some ⟨b, off, none⟩) n c] 22)).alloc (.cells #[.int .i64 t] 3)).alloc (.cells #[.slice none 0 0] 31)) := by
  refine ⟨(((Below.refl _ _).alloc (Nat.le_refl _) _).alloc (by simp) _).alloc (by simp; omega) _, ?_, ?_, ⟨none, 0, ?_, World.ownsRow_nil _ _ _ _⟩, by simp⟩
  · rw [Below.heap_alloc _ _ _ (by simp; omega), Below.heap_alloc _ _ _ (by simp)]
    exact alloc_at _ _
  · rw [Below.heap_alloc _ _ _ (by simp)]
    exact alloc_at' _ _ _ (by simp)
  · exact alloc_at' _ _ _ (by simp)
theorem kids_out (p : Option Addr) (n c : Nat) (i : Int) (w : World) (ho : i < 0 ∨ (n : Int) ≤ i) :
    Calls Try.prog 17 #[.slice p n c, .int .i64 i] w fun e w' => e = .returned (.slice none 0 0) ∧ Below w.heap.size w w' := by
  go_enter Try.func17, Try.ntmps17
  go_wp2_with ((go_at_call 29; refine (search_out _ _ _ _ _ _ ho).mono ?_; rintro e w' ⟨rfl, rfl⟩))
  go_ret
  exact ⟨rfl, (((Below.refl _ _).alloc (Nat.le_refl _) _).alloc (by simp) _).alloc (by simp; omega) _⟩
def KRet (W : World) (xs : List Int) (e : Ending) (w' : World) : Prop := ∃ v', e = .returned v' ∧ IntsAt w' v' xs ∧ Below W.heap.size W w'
set_option maxHeartbeats 1000000 in
theorem kids_in (b off n c t : Nat) (ks : List Int) (w : World) (ht : t < n) (hn : n ≤ 1000000) (hl : ks.length = n) (hb : b < w.heap.size) (hc : Hid (∀ m, m < n → w.cell? ⟨b, off + m * 4 + 3, none⟩ = some (.int .i64 (ks.getD m 0)))) :
    Calls Try.prog 17 #[.slice (some ⟨b, off, none⟩) n c, .int .i64 t] w (KRet w (ofNats (kidsI ks t))) := by
  have HL := Lib.hid hl
  clear hl
  go_enter Try.func17, Try.ntmps17
  go_wp2_with fail
  refine (search_kids b off n c t ks w _ ht hn HL.out hb hc.out (kmem_start w b off n c t)).mono ?_
  rintro e w1 ⟨y, hy, rfl, ⟨h0, hD⟩ | ⟨h0, hE⟩⟩
  · have H0 := Lib.hid h0
    have HY := Lib.hid hy
    have hy0 : decide (y < 0) = false := decide_eq_false (by omega)
    clear hy
    obtain ⟨hb1, hd⟩ := hD
    obtain ⟨p, cap, hC, hown⟩ := hd h0
    have hC2 := cell_of_one hC
    have HO := Lib.hid hown
    clear hd hown hC h0
    go_wp2
    go_ret
    refine ⟨_, rfl, ?_, hb1⟩
    have e : kidsI ks t = starts ks (t + 1) (ks.getD t 0).toNat := by
      unfold kidsI
      rw [endI_nat, if_neg (by have := H0.out; omega), Int.toNat_natCast]
    rw [e]
    have := SliceAt.of_owns HO.out
    simpa [IntsAt, ofNats] using this
  · have HY := Lib.hid hy
    have H0 := Lib.hid h0
    have hy0 : decide (y < 0) = true := decide_eq_true (by omega)
    clear hy h0
    go_wp2
    go_ret
    refine ⟨_, rfl, ?_, hE⟩
    have e : kidsI ks t = [] := by
      unfold kidsI
      rw [endI_nat, if_pos (by have := H0.out; omega)]
    rw [e]
    exact ints_nil _ _ rfl
theorem kids_any (v : Value) (ns : List Nd) (i : Int) (w : World) (h : NodesAt w v ns) (hn : ns.length ≤ 1000000) :
    Calls Try.prog 17 #[v, .int .i64 i] w (KRet w (ofNats (kidsI (kk ns) i))) := by
  obtain ⟨_, p, c, rfl, _, _, hp⟩ := h
  by_cases ho : i < 0 ∨ (ns.length : Int) ≤ i
  · have he : kidsI (kk ns) i = [] := by unfold kidsI; rw [endI_out (kk ns) i (by rw [length_kk]; exact ho), if_pos (by omega)]
    rw [he]
    refine (kids_out p ns.length c i w ho).mono ?_
    rintro e w' ⟨rfl, hb⟩
    exact ⟨_, rfl, ints_nil _ _ rfl, hb⟩
  · obtain ⟨m, rfl⟩ : ∃ m : Nat, i = m := ⟨i.toNat, by omega⟩
    obtain ⟨b, off, rfl, hb, hc⟩ := hp (by omega)
    exact kids_in b off ns.length c m (kk ns) w (by omega) hn (length_kk ns) hb fun j hj => hc.kids j hj
end Go.Proofs.Ytdddfdblcfngbaa
