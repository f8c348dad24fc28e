/- tree.Sub, tree.Make, tree.Put. -/
import Derived.Test.YtlalnmefppbebaaJoin
import Derived.Deep.RegionWith
namespace Go.Proofs.Ytlalnmefppbebaa
open Go.RowKit Go.Proofs.TreeMath
def subN (ns : List Nd) (i : Int) : List Nd := (ns.drop i.toNat).take ((endI (kk ns) i).toNat - i.toNat)
/-- A function that returns a new list of nodes, and whether it could. -/
def ERet (W : World) (ns : List Nd) (code : Int) (e : Ending) (w' : World) : Prop := ∃ v', e = .returned (.tuple #[v', .int .i64 code]) ∧ NodesAt w' v' ns ∧ Below W.heap.size W w'
theorem nodes_nil (w : World) : NodesAt w (.slice none 0 0) [] := SliceAt.nil w 4
theorem sub_not (v : Value) (ns : List Nd) (i : Int) (w : World) (h : NodesAt w v ns) (hn : ns.length ≤ 1000000) (hE : decide (endI (kk ns) i < 0) = true) :
    Calls Try.prog 24 #[v, .int .i64 i] w (ERet w [] 20) := by
  obtain ⟨p, c, hv⟩ : ∃ p c, v = .slice p ns.length c := by obtain ⟨_, p, c, hv, _⟩ := h; exact ⟨p, c, hv⟩
  subst hv
  go_enter Try.func24, Try.ntmps24
  go_wp2_with ((go_at_call 43; refine (end_any _ ns _ _ h hn).mono ?_; rintro e w' ⟨rfl, rfl⟩))
  go_ret2
  exact ⟨_, rfl, nodes_nil _, Below.refl _ _⟩
theorem lists_new (w : World) (vs : List Value) (t : TypeId) (Ls : List (List Nd)) (hl : vs.length = Ls.length) (h : ∀ i, i < Ls.length → NodesAt w (vs.getD i default) (Ls.getD i [])) :
    Lists (w.alloc (.cells vs.toArray t)) w.heap.size 0 Ls := by
  intro i hi
  refine ⟨vs.getD i default, ?_, (h i hi).below ((Below.refl _ _).alloc (Nat.le_refl _) _)⟩
  have h1 : (w.alloc (.cells vs.toArray t)).heap[w.heap.size]? = some (.cells vs.toArray t (0, 0)) := by
    show (w.heap.push _)[w.heap.size]? = _
    simp
  unfold World.cell?
  simp only [h1]
  simp [List.getD_eq_getElem?_getD, List.getElem?_eq_getElem (show i < vs.length by omega)]
theorem lists_one (w : World) (v : Value) (t : TypeId) (ns : List Nd) (h : NodesAt w v ns) : Lists (w.alloc (.cells #[v] t)) w.heap.size 0 [ns] :=
  lists_new w [v] t [ns] rfl fun i hi => by
    obtain rfl : i = 0 := by simpa using hi
    exact h
theorem lists_three (w : World) (v1 v2 v3 : Value) (t : TypeId) (a b c : List Nd) (h1 : NodesAt w v1 a) (h2 : NodesAt w v2 b) (h3 : NodesAt w v3 c) : Lists (w.alloc (.cells #[v1, v2, v3] t)) w.heap.size 0 [a, b, c] :=
  lists_new w [v1, v2, v3] t [a, b, c] rfl fun i hi => by
    match i, hi with
    | 0, _ => exact h1
    | 1, _ => exact h2
    | 2, _ => exact h3
theorem cut_nodes {w : World} {b off n c : Nat} {ns : List Nd} (hn : ns.length = n) (hnc : n ≤ c) (hcm : c ≤ 9223372036854775807) (hb : b < w.heap.size) (hc : CellsIn w b off (nodeCells ns)) (i E : Nat) (hiE : i ≤ E) (hEn : E ≤ n) :
    NodesAt w (.slice (some ⟨b, off + i * 4, none⟩) (E - i) (c - i)) ((ns.drop i).take (E - i)) := by
  have h := SliceAt.cut (size := 4) (n := n) (by rw [length_nodeCells, hn]) hc hb i E hiE hEn (c - i) (by omega) (by unfold maxLen; omega)
  have hl : ((ns.drop i).take (E - i)).length = E - i := by rw [List.length_take, List.length_drop, hn]; omega
  unfold NodesAt
  rw [hl, nodeCells_take, nodeCells_drop]
  exact h
theorem flat_le (ns : List Nd) (i k : Nat) (h : ns.length ≤ 1000000) : [(ns.drop i).take k].flatten.length ≤ 1000000 := by
  simp
  omega
theorem sub_in (b off n c i E : Nat) (ns : List Nd) (w : World) (hn : ns.length = n) (hnc : n ≤ c) (hcm : c ≤ 9223372036854775807) (hn1 : n ≤ 1000000) (h : NodesAt w (.slice (some ⟨b, off, none⟩) n c) ns) (hb : b < w.heap.size) (hc : Hid (CellsIn w b off (nodeCells ns))) (hE : endI (kk ns) i = E) (hiE : i < E) (hEn : E ≤ n) :
    Calls Try.prog 24 #[.slice (some ⟨b, off, none⟩) n c, .int .i64 i] w (ERet w ((ns.drop i).take (E - i)) 0) := by
  have HN := Lib.hid hn
  have HE := Lib.hid hE
  clear hn hE
  go_enter Try.func24, Try.ntmps24
  go_wp2_with fail
  refine (end_any _ ns _ _ h (by rw [HN.out]; exact hn1)).mono ?_
  rintro e w' ⟨rfl, rfl⟩
  rw [HE.out]
  go_wp2_with fail
  refine (join_any w.heap.size 0 1 [(ns.drop i).take (E - i)] _ (by simp) (lists_one w _ 22 _ (cut_nodes HN.out hnc hcm hb hc.out i E (by omega) hEn)) (flat_le _ _ _ (by rw [HN.out]; exact hn1)) (by simp)).mono ?_
  rintro e w1 ⟨v', rfl, hv, hb1⟩
  have HV := Lib.hid hv
  clear hv
  go_wp2_with fail
  go_ret2
  refine ⟨_, rfl, ?_, ((Below.refl _ _).alloc (Nat.le_refl _) _).trans (hb1.mono (by simp))⟩
  have := HV.out
  simpa using this
theorem nodes_slice {w : World} {v : Value} {ns : List Nd} (h : NodesAt w v ns) (hp : 0 < ns.length) : ∃ b off c, v = .slice (some ⟨b, off, none⟩) ns.length c ∧ ns.length ≤ c ∧ c ≤ 9223372036854775807 ∧ b < w.heap.size ∧ CellsIn w b off (nodeCells ns) := by
  obtain ⟨_, p, c, rfl, h1, h2, h4⟩ := h
  obtain ⟨b, off, rfl, h5, h6⟩ := h4 (by omega)
  exact ⟨b, off, c, rfl, h1, by unfold maxLen at h2; omega, h5, h6⟩
def subE (ns : List Nd) (i : Int) : Int := if endI (kk ns) i < 0 then 20 else 0
def subL (ns : List Nd) (i : Int) : List Nd := if endI (kk ns) i < 0 then [] else subN ns i
theorem sub_any (v : Value) (ns : List Nd) (i : Int) (w : World) (h : NodesAt w v ns) (hn : ns.length ≤ 1000000) :
    Calls Try.prog 24 #[v, .int .i64 i] w (ERet w (subL ns i) (subE ns i)) := by
  by_cases hE : endI (kk ns) i < 0
  · unfold subL subE
    rw [if_pos hE, if_pos hE]
    exact sub_not v ns i w h hn (decide_eq_true hE)
  · unfold subL subE
    rw [if_neg hE, if_neg hE]
    rcases endI_range (kk ns) i with h0 | ⟨h1, h2, h3⟩
    · omega
    · rw [length_kk] at h3
      obtain ⟨b, off, c, rfl, h4, h5, h6, h7⟩ := nodes_slice h (by omega)
      obtain ⟨m, rfl⟩ : ∃ m : Nat, i = m := ⟨i.toNat, by omega⟩
      obtain ⟨E, hE⟩ : ∃ E : Nat, endI (kk ns) m = E := ⟨(endI (kk ns) m).toNat, by omega⟩
      have := sub_in b off ns.length c m E ns w rfl h4 h5 hn h h6 h7 hE (by omega) (by omega)
      unfold subN
      rw [hE]
      exact this
theorem put_not (v v2 : Value) (ns by' : List Nd) (i : Int) (w : World) (h : NodesAt w v ns) (h2 : NodesAt w v2 by') (hn : ns.length ≤ 1000000) (hn2 : by'.length ≤ 1000000) (hE : endI (kk ns) i < 0 ∨ wholeB (kk by') = false) :
    Calls Try.prog 29 #[v, .int .i64 i, v2] w (ERet w [] 20) := by
  by_cases h0 : endI (kk ns) i < 0
  · have hE := decide_eq_true h0
    clear h0
    go_enter Try.func29, Try.ntmps29
    go_wp2_with ((go_at_call 43; refine (end_any _ ns _ _ h hn).mono ?_; rintro e w' ⟨rfl, rfl⟩))
    go_ret2
    exact ⟨_, rfl, nodes_nil _, Below.refl _ _⟩
  · have hW : wholeB (kk by') = false := by rcases hE with h | h; exact absurd h h0; exact h
    have hE := decide_eq_false h0
    clear h0
    go_enter Try.func29, Try.ntmps29
    go_wp2_with (first | (go_at_call 43; refine (end_any _ ns _ _ h hn).mono ?_; rintro e w' ⟨rfl, rfl⟩) | (go_at_call 45; refine (whole_any _ by' _ h2 hn2).mono ?_; rintro e w' ⟨rfl, rfl⟩; rw [hW]))
    go_ret2
    exact ⟨_, rfl, nodes_nil _, Below.refl _ _⟩
theorem Lists.drew {w : World} {b off : Nat} {Ls : List (List Nd)} (h : Lists w b off Ls) : Lists w.drew b off Ls := by
  intro i hi
  obtain ⟨v, h1, h2⟩ := h i hi
  exact ⟨v, h1, h2.below (Below.refl _ _).drew⟩
theorem cut_first {w : World} {b off n c : Nat} {ns : List Nd} (hn : ns.length = n) (hnc : n ≤ c) (hcm : c ≤ 9223372036854775807) (hb : b < w.heap.size) (hc : CellsIn w b off (nodeCells ns)) (i : Nat) (hi : i ≤ n) :
    NodesAt w (.slice (some ⟨b, off, none⟩) i c) (ns.take i) := by
  have := cut_nodes hn hnc hcm hb hc 0 i (by omega) hi
  simpa using this
theorem flat3 (ns by' : List Nd) (i E : Nat) (h : ns.length ≤ 100000) (h2 : by'.length ≤ 100000) : [ns.take i, by', ns.drop E].flatten.length ≤ 1000000 := by
  simp
  omega
theorem cut_last {w : World} {b off n E : Nat} {ns : List Nd} (hn : ns.length = n) (_ : E ≤ 9223372036854775807) (hE : n ≤ E) : NodesAt w (.slice (some ⟨b, off, none⟩) 0 0) (ns.drop E) := by
  rw [List.drop_of_length_le (by omega)]
  exact ⟨rfl, _, _, rfl, Nat.le_refl _, by unfold maxLen; omega, fun h => absurd rfl h⟩
set_option maxHeartbeats 1000000 in
theorem put_in (b off n c i E : Nat) (v2 : Value) (ns by' : List Nd) (w : World) (hn : ns.length = n) (hnc : n ≤ c) (hcm : c ≤ 9223372036854775807) (hn1 : n ≤ 1000000) (h : NodesAt w (.slice (some ⟨b, off, none⟩) n c) ns) (hb : b < w.heap.size) (hc : Hid (CellsIn w b off (nodeCells ns))) (hE : endI (kk ns) i = E) (hiE : i < E) (hEn : E ≤ n)
    (h2 : NodesAt w v2 by') (hn2 : by'.length ≤ 100000) (hW : wholeB (kk by') = true) (hn3 : n ≤ 100000) :
    Calls Try.prog 29 #[.slice (some ⟨b, off, none⟩) n c, .int .i64 i, v2] w (ERet w (ns.take i ++ (by' ++ ns.drop E)) 0) := by
  obtain ⟨p2, n2, c2, hv2⟩ : ∃ p n c, v2 = .slice p n c := by obtain ⟨_, p, c, hv, _⟩ := h2; exact ⟨p, _, c, hv⟩
  subst hv2
  have HN := Lib.hid hn
  have HE := Lib.hid hE
  have H2 := Lib.hid hW
  clear hn hE hW
  go_enter Try.func29, Try.ntmps29
  go_wp2_with fail
  refine (end_any _ ns _ _ h (by rw [HN.out]; exact hn1)).mono ?_
  rintro e w' ⟨rfl, rfl⟩
  rw [HE.out]
  go_wp2_with fail
  refine (whole_any _ by' _ h2 (by omega)).mono ?_
  rintro e w' ⟨rfl, rfl⟩
  rw [H2.out]
  go_wp2_with fail
  have hEc : E = c ∨ E < c := by omega
  rcases hEc with rfl | hEc
  · go_region_with (go_at_call 44; (refine (join_any w.heap.size 0 3 [ns.take i, by', ns.drop E] _ (by simp) (Lists.drew (lists_three w _ _ _ 22 _ _ _ (cut_first HN.out hnc hcm hb hc.out i (by omega)) h2 (cut_last HN.out hcm hnc))) (flat3 _ _ _ _ (by rw [HN.out]; omega) hn2) (by simp)).mono ?_; rintro e w1 ⟨v', rfl, hv, hb1⟩; have HV := Lib.hid hv; clear hv))
    all_goals
      go_wp2_with fail
      go_ret2
      refine ⟨_, rfl, ?_, (((Below.refl _ _).alloc (Nat.le_refl _) _).drew).trans (hb1.mono (by simp))⟩
      have h9 := HV.out
      simp only [List.flatten_cons, List.flatten_nil, List.append_nil] at h9
      exact h9
  · go_region_with (go_at_call 44; (refine (join_any w.heap.size 0 3 [ns.take i, by', ns.drop E] _ (by simp) (Lists.drew (lists_three w _ _ _ 22 _ _ _ (cut_first HN.out hnc hcm hb hc.out i (by omega)) h2 (by have h5 := cut_nodes HN.out hnc hcm hb hc.out E n (by omega) (Nat.le_refl _); rw [List.take_of_length_le (by rw [List.length_drop, HN.out]; omega)] at h5; exact h5))) (flat3 _ _ _ _ (by rw [HN.out]; omega) hn2) (by simp)).mono ?_; rintro e w1 ⟨v', rfl, hv, hb1⟩; have HV := Lib.hid hv; clear hv))
    all_goals
      go_wp2_with fail
      go_ret2
      refine ⟨_, rfl, ?_, (((Below.refl _ _).alloc (Nat.le_refl _) _).drew).trans (hb1.mono (by simp))⟩
      have h9 := HV.out
      simp only [List.flatten_cons, List.flatten_nil, List.append_nil] at h9
      exact h9
def putE (ns : List Nd) (i : Int) (by' : List Nd) : Bool := decide (endI (kk ns) i < 0) || !wholeB (kk by')
def putL (ns : List Nd) (i : Int) (by' : List Nd) : List Nd := if putE ns i by' then [] else ns.take i.toNat ++ (by' ++ ns.drop (endI (kk ns) i).toNat)
theorem put_any (v v2 : Value) (ns by' : List Nd) (i : Int) (w : World) (h : NodesAt w v ns) (h2 : NodesAt w v2 by') (hn : ns.length ≤ 100000) (hn2 : by'.length ≤ 100000) :
    Calls Try.prog 29 #[v, .int .i64 i, v2] w (ERet w (putL ns i by') (if putE ns i by' then 20 else 0)) := by
  unfold putL
  cases hp : putE ns i by' with
  | true =>
    unfold putE at hp
    refine put_not v v2 ns by' i w h h2 (by omega) (by omega) ?_
    simpa using hp
  | false =>
    unfold putE at hp
    simp at hp
    obtain ⟨hE, hW⟩ := hp
    rcases endI_range (kk ns) i with h0 | ⟨h1, h3, h4⟩
    · omega
    · rw [length_kk] at h4
      obtain ⟨b, off, c, rfl, h5, h6, h7, h8⟩ := nodes_slice h (by omega)
      obtain ⟨m, rfl⟩ : ∃ m : Nat, i = m := ⟨i.toNat, by omega⟩
      obtain ⟨E, hE'⟩ : ∃ E : Nat, endI (kk ns) m = E := ⟨(endI (kk ns) m).toNat, by omega⟩
      have := put_in b off ns.length c m E v2 ns by' w rfl h5 h6 (by omega) h h7 h8 hE' (by omega) (by omega) h2 hn2 hW hn
      rw [hE']
      simpa using this
end Go.Proofs.Ytlalnmefppbebaa
