/- A tree is its root and its kids' trees, as lists of nodes; rows of slices of nodes. -/
import Derived.Test.YtdddfdblcfngbaaFresh
import Derived.Test.YtdddfdblcfngbaaWhere
namespace Go.Proofs.Ytdddfdblcfngbaa
open Go.RowKit Go.Proofs.TreeMath
theorem subN_nat (ns : List Nd) (s : Nat) : subN ns (s : Int) = (ns.drop s).take ((fin (kk ns) s 1).toNat - s) := by
  unfold subN
  rw [endI_nat, Int.toNat_natCast]
theorem kk_subN (ns : List Nd) (s : Nat) : kk (subN ns (s : Int)) = subK (kk ns) s := by
  rw [subN_nat]
  unfold subK kk
  rw [List.map_take, List.map_drop]
def kidL (ns : List Nd) (XS : List Nat) : List (List Nd) := XS.map fun (s : Nat) => subN ns (s : Int)
theorem parts_math (ns : List Nd) (i : Nat) (h : 0 ≤ fin (kk ns) i 1) : subN ns (i : Int) = makeN (ns.getD i default) (kidL ns (kidsI (kk ns) i)) := by
  obtain ⟨h1, h2⟩ := kid_nonneg (kk ns) i h
  have h3 := fin_kids (kk ns) i h
  have hk : kidsI (kk ns) i = starts (kk ns) (i + 1) ((kk ns).getD i 0).toNat := by unfold kidsI; rw [endI_nat, if_neg (by omega), Int.toNat_natCast]
  have h4 := sub_parts ns (kk ns) ((kk ns).getD i 0).toNat (i + 1) (by omega)
  have h5 := fin_le (kk ns) i 1 h
  rw [length_kk] at h1
  have hd : ns.drop i = ns.getD i default :: ns.drop (i + 1) := by
    rw [List.drop_eq_getElem_cons h1, List.getD_eq_getElem?_getD, List.getElem?_eq_getElem h1]
    rfl
  unfold makeN kidL
  rw [subN_nat, hd, show (fin (kk ns) i 1).toNat - i = ((fin (kk ns) i 1).toNat - (i + 1)) + 1 by omega, List.take_succ_cons, h3, h4, hk]
  simp only [List.length_map, starts_length]
  congr 1
  · have h6 := kk_get ns i
    generalize ns.getD i default = x at h6 ⊢
    cases x
    simp only [Nd.mk.injEq, true_and]
    simp only at h6
    omega
theorem subN_pos (ns : List Nd) (s : Nat) (h : 0 ≤ fin (kk ns) s 1) : 0 < (subN ns (s : Int)).length := by
  have := wholeB_pos (subK (kk ns) s) (sub_whole (kk ns) s h)
  rw [← kk_subN, length_kk] at this
  exact this
theorem own_block {w : World} {v : Value} {ns : List Nd} (h : NodesAt w v ns) (hp : 0 < ns.length) : ∃ k, v.ownBlock = some k ∧ k < w.heap.size := by
  obtain ⟨_, p, c, rfl, _, _, h4⟩ := h
  obtain ⟨b, off, rfl, hb, _⟩ := h4 (by omega)
  exact ⟨b, rfl, hb⟩
theorem owns_below {w w' : World} {base : Nat} {e : TypeId} {size n : Nat} {v : Value} {xs : List Value} (h : w.ownsRow base e size v n xs) (hb : Below w.heap.size w w') : w'.ownsRow base e size v n xs := by
  obtain ⟨h1, h2 | ⟨g, cap, cur, hv, hg, hh, r⟩⟩ := h
  · exact ⟨h1, .inl h2⟩
  · exact ⟨h1, .inr ⟨g, cap, cur, hv, hg, (hb.block g (Array.getElem?_eq_some_iff.1 hh).1).trans hh, r⟩⟩
/-- A row of slices, each leading to its list, none of them in the row's own block. -/
structure RowOf (w : World) (base g j cap : Nat) (Ls : List (List Nd)) (vs : List Value) : Prop where
  row : w.ownsRow base 22 1 (.slice (some ⟨g, 0, none⟩) j cap) j vs
  len : Ls.length = j
  node : ∀ t, t < j → NodesAt w (vs.getD t default) (Ls.getD t []) ∧ (vs.getD t default).ownBlock ≠ some g ∧ 0 < (Ls.getD t []).length
theorem RowOf.push {w w2 w3 : World} {base g j cap g' cap' : Nat} {Ls : List (List Nd)} {vs : List Value} {v : Value} {L : List Nd} {x : Obj} (h : RowOf w base g j cap Ls vs) (hb : Below w.heap.size w w2) (hL : NodesAt w2 v L) (hp : 0 < L.length) (hf : ∀ k, v.ownBlock = some k → w.heap.size ≤ k)
    (hr : w3.ownsRow base 22 1 (.slice (some ⟨g', 0, none⟩) (j + 1) cap') (j + 1) (vs ++ [v])) (hg : (w2.alloc x).grownBy w3 (some g)) (hg' : g' = g ∨ g' = (w2.alloc x).heap.size) : RowOf w3 base g' (j + 1) cap' (Ls ++ [L]) (vs ++ [v]) := by
  have hgl := h.row.lt g rfl
  have hvl : vs.length = j := by have := h.row.1; omega
  have ha : Below w2.heap.size w2 (w2.alloc x) := (Below.refl _ _).alloc (Nat.le_refl _) _
  have hsz : (w2.alloc x).heap.size = w2.heap.size + 1 := by simp
  have hs2 := hb.size
  refine ⟨hr, by rw [List.length_append, h.len]; rfl, fun t ht => ?_⟩
  rcases Nat.lt_or_ge t j with h1 | h1
  · obtain ⟨n1, n2, n3⟩ := h.node t h1
    have e1 : (vs ++ [v]).getD t default = vs.getD t default := by
      simp only [List.getD_eq_getElem?_getD]
      rw [List.getElem?_append_left (by omega)]
    have e2 : (Ls ++ [L]).getD t [] = Ls.getD t [] := by
      simp only [List.getD_eq_getElem?_getD]
      rw [List.getElem?_append_left (by rw [h.len]; exact h1)]
    rw [e1, e2]
    refine ⟨SliceAt.grown ((n1.below hb).below ha) hg (.inr n2), ?_, n3⟩
    obtain ⟨k, hk, hkl⟩ := own_block n1 n3
    rw [hk] at n2 ⊢
    rcases hg' with rfl | rfl
    · exact n2
    · intro h9
      simp only [Option.some.injEq] at h9
      omega
  · obtain rfl : t = j := by omega
    have e1 : (vs ++ [v]).getD t default = v := by
      simp only [List.getD_eq_getElem?_getD]
      rw [List.getElem?_append_right (by omega), hvl]
      simp
    have e2 : (Ls ++ [L]).getD t [] = L := by
      simp only [List.getD_eq_getElem?_getD]
      rw [List.getElem?_append_right (by rw [h.len]; exact Nat.le_refl _), h.len]
      simp
    rw [e1, e2]
    obtain ⟨k, hk, hkl⟩ := own_block hL hp
    have hkw := hf k hk
    refine ⟨SliceAt.grown (hL.below ha) hg (.inr (by rw [hk]; intro h9; simp only [Option.some.injEq] at h9; omega)), ?_, hp⟩
    rw [hk]
    intro h9
    simp only [Option.some.injEq] at h9
    rcases hg' with rfl | rfl <;> omega
theorem RowOf.below {w w' : World} {base g j cap : Nat} {Ls : List (List Nd)} {vs : List Value} (h : RowOf w base g j cap Ls vs) (hb : Below w.heap.size w w') : RowOf w' base g j cap Ls vs :=
  ⟨owns_below h.row hb, h.len, fun t ht => ⟨(h.node t ht).1.below hb, (h.node t ht).2⟩⟩
theorem RowOf.lists {w : World} {base g j cap : Nat} {Ls : List (List Nd)} {vs : List Value} (h : RowOf w base g j cap Ls vs) : ListsAt w (.slice (some ⟨g, 0, none⟩) j cap) Ls := by
  have := SliceAt.of_owns h.row
  refine ⟨vs, by rw [h.len]; exact this, fun i hi => (h.node i (by rw [h.len] at hi; exact hi)).1⟩
end Go.Proofs.Ytdddfdblcfngbaa
