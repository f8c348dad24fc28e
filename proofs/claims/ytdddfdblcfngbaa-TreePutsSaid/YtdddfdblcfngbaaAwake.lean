/- tree.Up as the document has it; what the chapter's example fixes. -/
import Derived.Test.YtdddfdblcfngbaaRefUp
import Derived.Test.YtdddfdblcfngbaaRefMake
import Derived.Test.YtdddfdblcfngbaaSame
namespace Go.Proofs.Ytdddfdblcfngbaa
open Go.RowKit Go.Proofs.TreeMath
theorem kid_range (ks : List Int) (p s : Nat) (h : s ∈ kidsI ks p) : p < s ∧ s < ks.length ∧ 0 ≤ fin ks p 1 := by
  by_cases hf : 0 ≤ fin ks p 1
  · have h1 := (subK_parts ks p hf).2.2 s h
    exact ⟨h1.1, (kid_nonneg ks s h1.2).1, hf⟩
  · unfold kidsI at h
    rw [endI_nat, if_pos (by omega)] at h
    simp at h
theorem mem_ofNats (xs : List Nat) (x : Int) : x ∈ ofNats xs ↔ ∃ s : Nat, x = s ∧ s ∈ xs := by
  simp only [ofNats, List.mem_map]
  constructor
  · rintro ⟨s, hs, rfl⟩
    exact ⟨s, rfl, hs⟩
  · rintro ⟨s, rfl, hs⟩
    exact ⟨s, hs, rfl⟩
theorem upIs_uniq (ks : List Int) (x y z : Int) (hy : UpIs ks x y) (hz : UpIs ks x z) : y = z := by
  rcases hy with ⟨p, rfl, hp, hm⟩ | ⟨rfl, hn⟩ <;> rcases hz with ⟨q, rfl, hq, hm2⟩ | ⟨rfl, hn2⟩
  · obtain ⟨s, rfl, hs⟩ := (mem_ofNats _ _).1 hm
    obtain ⟨s2, he, hs2⟩ := (mem_ofNats _ _).1 hm2
    obtain rfl : s = s2 := by omega
    have h1 := (mem_kids ks p s (kid_range ks p s hs).2.2).1 hs
    have h2 := (mem_kids ks q s (kid_range ks q s hs2).2.2).1 hs2
    rw [par_uniq ks p q s h1 h2]
  · exact absurd hm (hn2 p hp)
  · exact absurd hm2 (hn q hq)
  · rfl
theorem up_whole (v : Value) (ns : List Nd) (x : Int) (w : World) (h : NodesAt w v ns) (hn : ns.length ≤ 1000000) (hW : wholeB (kk ns) = true) : Calls Try.prog 27 #[v, .int .i64 x] w (URet w (kk ns) x) := by
  by_cases ho : x ≤ 0 ∨ (ns.length : Int) ≤ x
  · refine (up_not v ns x w h hn (by rcases ho with h | h; exact .inl h; exact .inr (.inl h))).mono ?_
    rintro e w' ⟨rfl, rfl⟩
    refine ⟨_, .inr ⟨rfl, fun p hp hm => ?_⟩, rfl, Below.refl _ _⟩
    obtain ⟨s, rfl, hs⟩ := (mem_ofNats _ _).1 hm
    have := kid_range _ p s hs
    rw [length_kk] at this
    omega
  · obtain ⟨i, rfl⟩ : ∃ i : Nat, x = i := ⟨x.toNat, by omega⟩
    obtain ⟨b, off, c, rfl, _, _, hb, hc⟩ := nodes_slice h (by omega)
    refine (up_in b off ns.length c i ns w h rfl hn hc (by omega) (by omega) hW).mono ?_
    rintro e w' ⟨p, rfl, hp, rfl⟩
    have hpl : p < (kk ns).length := by rw [length_kk]; have := hp.1; omega
    exact ⟨_, .inl ⟨p, rfl, hpl, (mem_ofNats _ _).2 ⟨i, rfl, (mem_kids _ p i (whole_sub _ hW p hpl)).2 hp⟩⟩, rfl, Below.refl _ _⟩
def ns4 : List Nd := [⟨0, ⟨#[]⟩, 0, 2⟩, ⟨0, ⟨#[]⟩, 0, 1⟩, ⟨0, ⟨#[]⟩, 0, 0⟩, ⟨0, ⟨#[]⟩, 0, 0⟩]
def ns1 : List Nd := [⟨0, ⟨#[]⟩, 5, 0⟩]
theorem nodes_new (w : World) (ns : List Nd) (cs : Array Value) (n : Nat) (hn : ns.length = n) (h : cs.toList = nodeCells ns) (hm : n ≤ 1000000) : NodesAt (w.alloc (.cells cs 37)) (.slice (some ⟨w.heap.size, 0, none⟩) n n) ns := by
  subst hn
  refine ⟨length_nodeCells ns, _, _, rfl, Nat.le_refl _, by unfold maxLen; omega, fun _ => ⟨_, _, rfl, by simp, ?_⟩⟩
  intro j u hj
  unfold World.cell?
  simp only [alloc_at]
  rw [← h] at hj
  simpa using hj
theorem nodes_form {w : World} {v : Value} {ns : List Nd} {n : Nat} (h : NodesAt w v ns) (hn : ns.length = n) : ∃ p c, v = .slice p n c := by
  obtain ⟨_, p, c, hv, _⟩ := h
  rw [hn] at hv
  exact ⟨p, c, hv⟩
theorem ints_new (w : World) (xs : List Int) (cs : Array Value) (n : Nat) (hn : xs.length = n) (h : cs.toList = intCells xs) (hm : n ≤ 1000000) : IntsAt (w.alloc (.cells cs 3)) (.slice (some ⟨w.heap.size, 0, none⟩) n n) xs := by
  subst hn
  refine ⟨by simp [intCells], _, _, rfl, Nat.le_refl _, by unfold maxLen; omega, fun _ => ⟨_, _, rfl, by simp, ?_⟩⟩
  intro j u hj
  unfold World.cell?
  simp only [alloc_at]
  rw [← h] at hj
  simpa using hj
theorem lists_new2 (w : World) (v1 v2 : Value) (a b : List Nd) (h1 : NodesAt w v1 a) (h2 : NodesAt w v2 b) : ListsAt (w.alloc (.cells #[v1, v2] 22)) (.slice (some ⟨w.heap.size, 0, none⟩) 2 2) [a, b] := by
  refine ⟨[v1, v2], ⟨rfl, _, _, rfl, Nat.le_refl _, by unfold maxLen; omega, fun _ => ⟨_, _, rfl, by simp, ?_⟩⟩, ?_⟩
  · intro j u hj
    unfold World.cell?
    simp only [alloc_at]
    simpa using hj
  · intro i hi
    have hb : Below w.heap.size w (w.alloc (.cells #[v1, v2] 22)) := (Below.refl _ _).alloc (Nat.le_refl _) _
    match i, hi with
    | 0, _ => exact h1.below hb
    | 1, _ => exact h2.below hb
theorem upIs4 (y : Int) (h : UpIs (kk ns4) 2 y) : y = 1 := upIs_uniq _ _ _ _ h (.inl ⟨1, rfl, by decide, by decide⟩)
set_option maxHeartbeats 4000000 in
set_option maxRecDepth 100000 in
theorem awake_any (w : World) : Calls Try.prog 9 #[] w (BRet w true) := by
  go_enter Try.func9, Try.ntmps9
  go_wp2_with fail
  have hN := nodes_new w ns4 #[Value.int IntKind.i64 0, Value.string { data := #[] }, Value.int IntKind.i64 0, Value.int IntKind.i64 2,
          Value.int IntKind.i64 0, Value.string { data := #[] }, Value.int IntKind.i64 0, Value.int IntKind.i64 1,
          Value.int IntKind.i64 0, Value.string { data := #[] }, Value.int IntKind.i64 0, Value.int IntKind.i64 0,
          Value.int IntKind.i64 0, Value.string { data := #[] }, Value.int IntKind.i64 0, Value.int IntKind.i64 0] 4 rfl rfl (by omega)
  have b1 : Below w.heap.size w (w.alloc _) := (Below.refl w.heap.size w).alloc (Nat.le_refl _) (.cells #[Value.int IntKind.i64 0, Value.string { data := #[] }, Value.int IntKind.i64 0, Value.int IntKind.i64 2,
          Value.int IntKind.i64 0, Value.string { data := #[] }, Value.int IntKind.i64 0, Value.int IntKind.i64 1,
          Value.int IntKind.i64 0, Value.string { data := #[] }, Value.int IntKind.i64 0, Value.int IntKind.i64 0,
          Value.int IntKind.i64 0, Value.string { data := #[] }, Value.int IntKind.i64 0, Value.int IntKind.i64 0] 37)
  refine (sub_any _ ns4 1 _ hN (by decide)).mono ?_
  rintro e w2 ⟨v2, rfl, h2, b2⟩
  obtain ⟨p2, c2, rfl⟩ := nodes_form (n := 2) h2 rfl
  rw [show subE ns4 1 = 0 from rfl]
  replace hN := hN.below b2
  replace b2 := b1.trans (b2.mono b1.size)
  clear b1
  go_wp2_with fail
  have h5 := nodes_new w2 ns1 #[.int .i64 0, .string ⟨#[]⟩, .int .i64 5, .int .i64 0] 1 rfl rfl (by omega)
  have b3 := (Below.refl w2.heap.size w2).alloc (Nat.le_refl _) (.cells #[.int .i64 0, .string ⟨#[]⟩, .int .i64 5, .int .i64 0] 37)
  refine (put_any _ _ ns4 ns1 1 _ (hN.below b3) h5 (by decide) (by decide)).mono ?_
  rintro e w4 ⟨v4, rfl, h4, b4⟩
  obtain ⟨p4, c4, rfl⟩ := nodes_form (n := 3) h4 rfl
  replace b4 := b3.trans (b4.mono b3.size)
  replace hN := hN.below b4
  replace h2 := h2.below b4
  replace b4 := b2.trans (b4.mono b2.size)
  clear b2 b3 h5 h4
  go_wp2_with fail
  refine (whole_any _ ns4 _ hN (by decide)).mono ?_
  rintro e w5 ⟨rfl, rfl⟩
  rw [show wholeB (kk ns4) = true from rfl]
  go_wp2_with fail
  refine (end_any _ ns4 1 _ hN (by decide)).mono ?_
  rintro e w5 ⟨rfl, rfl⟩
  rw [show endI (kk ns4) 1 = 3 from rfl]
  go_wp2_with fail
  refine (kids_any _ ns4 0 _ hN (by decide)).mono ?_
  rintro e w5 ⟨v5, rfl, h5, b5⟩
  rw [show ofNats (kidsI (kk ns4) 0) = [1, 3] from rfl] at h5
  replace hN := hN.below b5
  replace h2 := h2.below b5
  replace b5 := b4.trans (b5.mono b4.size)
  clear b4
  obtain ⟨p5, c5, rfl⟩ : ∃ p c, v5 = .slice p 2 c := by obtain ⟨_, p, c, hv, _⟩ := h5; exact ⟨p, c, hv⟩
  go_wp2_with fail
  have h6 := ints_new w5 [1, 3] #[.int .i64 1, .int .i64 3] 2 rfl rfl (by omega)
  have b6 := (Below.refl w5.heap.size w5).alloc (Nat.le_refl _) (.cells #[.int .i64 1, .int .i64 3] 3)
  refine (row_any _ _ [1, 3] [1, 3] _ (h5.below b6) h6 (by decide)).mono ?_
  rintro e w7 ⟨y, hy, rfl, b7⟩
  obtain rfl : y = true := by simpa using hy
  replace b7 := b6.trans (b7.mono b6.size)
  replace hN := hN.below b7
  replace h2 := h2.below b7
  replace b7 := b5.trans (b7.mono b5.size)
  clear b5 b6 h6 h5 hy
  go_wp2_with fail
  refine (deep_any _ ns4 _ hN (by decide)).mono ?_
  rintro e w8 ⟨y, hy, rfl, b8⟩
  obtain rfl : y = 3 := by rw [hy]; rfl
  replace hN := hN.below b8
  replace h2 := h2.below b8
  replace b8 := b7.trans (b8.mono b7.size)
  clear b7 hy
  go_wp2_with fail
  refine (up_whole _ ns4 2 _ hN (by decide) rfl).mono ?_
  rintro e w9 ⟨y, hy, rfl, b9⟩
  obtain rfl : y = 1 := upIs4 y hy
  replace hN := hN.below b9
  replace h2 := h2.below b9
  replace b9 := b8.trans (b9.mono b8.size)
  clear b8 hy
  go_wp2_with fail
  have h10 := lists_new2 w9 _ _ _ _ h2 h2
  have b10 := (Below.refl w9.heap.size w9).alloc (Nat.le_refl _) (.cells #[.slice p2 2 c2, .slice p2 2 c2] 22)
  refine (make_any ⟨0, ⟨#[]⟩, 0, 0⟩ _ _ _ h10 ⟨by decide, by decide⟩).mono ?_
  rintro e w11 ⟨v11, rfl, h11, b11⟩
  obtain ⟨p11, c11, rfl⟩ := nodes_form (n := 5) h11 rfl
  replace b11 := b9.trans ((b10.trans (b11.mono b10.size)).mono b9.size)
  clear b9 b10 h10 h11 hN h2
  go_wp2_with fail
  go_ret
  exact ⟨_, rfl, rfl, b11⟩
end Go.Proofs.Ytdddfdblcfngbaa
