/- tree.Kids: the search with the function that gathers the kids. -/
import Derived.Test.YtlalnmefppbebaaKidsFn
namespace Go.Proofs.Ytlalnmefppbebaa
open Go.RowKit Go.Proofs.TreeMath
def ofNats (xs : List Nat) : List Int := xs.map Int.ofNat
/-- What stands while the kids of the node at t are gathered: W the world at the call; the block of the list at H, of the index at H + 1, of the kids at H + 2. -/
structure KMem (W : World) (b off n c t : Nat) (outs : List Nat) (w : World) : Prop where
  below : Below W.heap.size W w
  blkB : w.heap[W.heap.size]? = some (.cells #[.slice (some ⟨b, off, none⟩) n c] 22 (0, 0))
  blkA : w.heap[W.heap.size + 1]? = some (.cells #[.int .i64 t] 3 (0, 0))
  kids : ∃ p cap, w.heap[W.heap.size + 1 + 1]? = some (.cells #[.slice p outs.length cap] 62 (0, 0)) ∧ w.ownsRow (W.heap.size + 3) 3 1 (.slice p outs.length cap) outs.length (intCells (ofNats outs))
  size : W.heap.size + 3 ≤ w.heap.size
theorem KMem.drew {W : World} {b off n c t : Nat} {outs : List Nat} {w : World} (h : KMem W b off n c t outs w) : KMem W b off n c t outs w.drew := by
  obtain ⟨h1, h2, h3, h4, h5⟩ := h
  exact ⟨h1.drew, h2, h3, h4, h5⟩
/-- Ahead of the function (r may be 0), and behind it (lo = 1). -/
def KInv (W : World) (b off n c t : Nat) (ks : List Int) (lo m o : Nat) (w : World) : Prop :=
  ∃ outs, KMem W b off n c t outs w ∧ ((m = t ∧ o = 1 ∧ outs = []) ∨ (t < m ∧ 0 ≤ ks.getD t 0 ∧ ∃ r, lo ≤ r ∧ o + outs.length = (ks.getD t 0).toNat + r ∧ outs.length ≤ (ks.getD t 0).toNat ∧ ((ks.getD t 0).toNat ≤ n ∨ (m = t + 1 ∧ outs = [] ∧ r = 0)) ∧
    (0 ≤ fin ks t 1 → outs ++ starts ks (fin ks m r).toNat ((ks.getD t 0).toNat - outs.length) = starts ks (t + 1) (ks.getD t 0).toNat)))
def KDone (W : World) (ks : List Int) (t : Nat) (w : World) : Prop :=
  Below W.heap.size W w ∧ (0 ≤ fin ks t 1 → ∃ p cap, w.heap[W.heap.size + 1 + 1]? = some (.cells #[.slice p (starts ks (t + 1) (ks.getD t 0).toNat).length cap] 62 (0, 0)) ∧
    w.ownsRow (W.heap.size + 3) 3 1 (.slice p (starts ks (t + 1) (ks.getD t 0).toNat).length cap) (starts ks (t + 1) (ks.getD t 0).toNat).length (intCells (ofNats (starts ks (t + 1) (ks.getD t 0).toNat))))
theorem kinv_go {W : World} {b off n c t : Nat} {ks : List Int} (hl : ks.length = n) (m o : Nat) (w : World) (hm : m < n) (h : KInv W b off n c t ks 1 m (o + 1) w) (hk : 0 ≤ ks.getD m 0) : KInv W b off n c t ks 0 (m + 1) (o + (ks.getD m 0).toNat) w := by
  obtain ⟨outs, hM, ⟨rfl, ho, rfl⟩ | ⟨htm, hk0, r, hr, ho, hj, hn, hs⟩⟩ := h
  · exact ⟨[], hM, .inr ⟨by omega, hk, 0, by omega, by simp; omega, by simp, .inr ⟨rfl, rfl, rfl⟩, fun _ => by simp [fin_zero]⟩⟩
  · obtain ⟨r, rfl⟩ : ∃ q, r = q + 1 := ⟨r - 1, by omega⟩
    refine ⟨outs, hM, .inr ⟨by omega, hk0, r + (ks.getD m 0).toNat, by omega, by omega, hj, .inl (by omega), fun hf => ?_⟩⟩
    rw [← hs hf, fin_step ks m r (by omega) hk]
theorem ints_nil (w : World) (v : Value) (h : v = .slice none 0 0) : IntsAt w v (ofNats []) := by subst h; exact SliceAt.nil w 1
theorem alloc_at (w : World) (o : Obj) : (w.alloc o).heap[w.heap.size]? = some o := by
  show (w.heap.push o)[w.heap.size]? = some o
  simp
theorem alloc_at' (w : World) (o : Obj) (k : Nat) (h : k = w.heap.size) : (w.alloc o).heap[k]? = some o := by
  subst h
  exact alloc_at w o
theorem kmem_start (W : World) (b off n c t : Nat) : KMem W b off n c t [] (((W.alloc (.cells #[.slice (some ⟨b, off, none⟩) n c] 22)).alloc (.cells #[.int .i64 t] 3)).alloc (.cells #[.slice none 0 0] 62)) := by
  refine ⟨(((Below.refl _ _).alloc (Nat.le_refl _) _).alloc (by simp) _).alloc (by simp; omega) _, ?_, ?_, ⟨none, 0, ?_, World.ownsRow_nil _ _ _ _⟩, by simp⟩
  · rw [Below.heap_alloc _ _ _ (by simp; omega), Below.heap_alloc _ _ _ (by simp)]
    exact alloc_at _ _
  · rw [Below.heap_alloc _ _ _ (by simp)]
    exact alloc_at' _ _ _ (by simp)
  · exact alloc_at' _ _ _ (by simp)
def KRet (W : World) (xs : List Int) (e : Ending) (w' : World) : Prop := ∃ v', e = .returned v' ∧ IntsAt w' v' xs ∧ Below W.heap.size W w'
end Go.Proofs.Ytlalnmefppbebaa
