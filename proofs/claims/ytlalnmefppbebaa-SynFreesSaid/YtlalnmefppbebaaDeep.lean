/- tree.Deep. -/
import Derived.Test.YtlalnmefppbebaaDeepFn
namespace Go.Proofs.Ytlalnmefppbebaa
open Go.RowKit Go.Proofs.TreeMath
def DR (W : World) (ks : List Int) (m o : Nat) (w : World) : Prop :=
  ∃ (P : List Nat) (d : Nat), DMem (W.heap.size + 1) W.heap.size (W.heap.size + 2) P d w ∧ Below W.heap.size W w ∧ P.length ≤ m ∧ d ≤ m ∧ dl (ks.drop m) o P d = deepI ks
def DS (W : World) (ks : List Int) (m o : Nat) (w : World) : Prop :=
  ∃ (P : List Nat) (d : Nat), DMem (W.heap.size + 1) W.heap.size (W.heap.size + 2) P d w ∧ Below W.heap.size W w ∧ P.length ≤ m + 1 ∧ d ≤ m + 1 ∧ dl (ks.drop (m + 1)) (o - 1 + (ks.getD m 0).toNat) P d = deepI ks
def DF (W : World) (ks : List Int) (w : World) : Prop := Below W.heap.size W w ∧ w.heap[W.heap.size]? = some (.cells #[.int .i64 (deepI ks : Int)] 3 (0, 0))
theorem trim_len (o : Nat) (P : List Nat) : (trim o P).length ≤ P.length := (List.dropWhile_sublist _).length_le
theorem dr_next {W : World} {ks : List Int} {n : Nat} (hl : ks.length = n) (hn : n ≤ 1000000) (m o : Nat) (oi : Int) (w : World) (hm : m < n) (hom : o + 1 ≤ n - m) (hoi : oi = ((o + 1 : Nat) : Int)) (h : DR W ks m (o + 1) w) :
    Calls Try.prog 47 (#[.int .i64 m, .int .i64 oi] ++ #[.pointer (some ⟨W.heap.size + 1, 0, none⟩), .pointer (some ⟨W.heap.size, 0, none⟩)]) w fun e w' => e = .returned (.bool false) ∧ DS W ks m (o + 1) w' := by
  obtain ⟨P, d, hM, hb, hP, hd, he⟩ := h
  refine (deep_step m oi d (o + 1) (W.heap.size + 1) W.heap.size (W.heap.size + 2) W.heap.size P w hM (by omega) (by omega) (by omega) (by omega) (Nat.le_refl _) (by omega) hoi (by omega) (by omega) (by omega) (by omega) (by omega)).mono ?_
  rintro e w' ⟨rfl, hM', hb'⟩
  have ht := trim_len (o + 1) P
  refine ⟨rfl, (o + 1) :: trim (o + 1) P, max d ((trim (o + 1) P).length + 1), ?_, hb.trans hb', by simp; omega, by omega, ?_⟩
  · have e : ((max d ((trim (o + 1) P).length + 1) : Nat) : Int) = max (d : Int) ((trim (o + 1) P).length + 1 : Nat) := by omega
    rw [e]
    exact hM'
  · rw [← he, drop_get ks m (by omega), dl]
    simp
set_option maxHeartbeats 1000000 in
theorem search_deep (b off n c : Nat) (ks : List Int) (W w : World) (h1 : 0 < n) (hn : n ≤ 1000000) (hl : ks.length = n) (hb : b < W.heap.size) (hc : ∀ m, m < n → W.cell? ⟨b, off + m * 4 + 3, none⟩ = some (.int .i64 (ks.getD m 0))) (hW : wholeB ks = true) (h0 : DR W ks 0 1 w) :
    Calls Try.prog 46 #[.slice (some ⟨b, off, none⟩) n c, .int .i64 0, .func (.func 47) #[] #[.pointer (some ⟨W.heap.size + 1, 0, none⟩), .pointer (some ⟨W.heap.size, 0, none⟩)]] w fun e w' => (∃ y : Int, e = .returned (.int .i64 y)) ∧ DF W ks w' := by
  refine (search_any b off n c 0 ks w h1 hn hl 47 _ call32 (DR W ks) (DS W ks) (DF W ks) (fun _ => True) h0 ?_ ?_ ?_ ?_ ?_).mono ?_
  · rintro m o w' ⟨P, d, _, hbel, _⟩ hm
    exact (hbel.cell (p := ⟨b, off + m * 4 + 3, none⟩) hb).trans (hc m hm)
  · rintro m w' _ ⟨P, d, hM, hbel, _, _, he⟩
    refine (deep_found m _ _ w').mono ?_
    rintro e w2 ⟨rfl, rfl⟩
    rw [dl_zero] at he
    subst he
    exact ⟨rfl, hbel, hM.deep⟩
  · intro m o oi w' h1 h2 h3 h4
    exact dr_next hl hn m o oi w' h1 h2 h3 h4
  · rintro m o w' _ ⟨P, d, hM, hbel, hP, hd, he⟩ _
    exact ⟨P, d, hM, hbel, hP, hd, by simpa using he⟩
  · intros
    trivial
  · rintro e w' ⟨y, hy, rfl, ⟨_, hF⟩ | ⟨h9, _⟩⟩
    · exact ⟨⟨y, rfl⟩, hF⟩
    · rw [whole_fin ks hW] at h9
      omega
theorem dr_start (W : World) (ks : List Int) (hW : wholeB ks = true) : DR W ks 0 1 ((W.alloc (.cells #[.int .i64 0] 3)).alloc (.cells #[.slice none 0 0] 62)) := by
  refine ⟨[], 0, ⟨⟨none, 0, 0, rfl, alloc_at' _ _ _ (by simp), World.ownsRow_nil _ _ _ _⟩, ?_, by simp⟩, ?_, Nat.zero_le _, Nat.zero_le _, ?_⟩
  · rw [Below.heap_alloc _ _ _ (by simp)]
    exact alloc_at _ _
  · exact ((Below.refl _ _).alloc (Nat.le_refl _) _).alloc (by simp) _
  · simp [deepI, hW]
theorem deep_not (v : Value) (ns : List Nd) (w : World) (h : NodesAt w v ns) (hn : ns.length ≤ 1000000) (hW : wholeB (kk ns) = false) :
    Calls Try.prog 25 #[v] w fun e w' => e = .returned (.int .i64 0) ∧ Below w.heap.size w w' := by
  go_enter Try.func25, Try.ntmps25
  go_wp2_with fail
  refine (whole_any _ ns _ h hn).mono ?_
  rintro e w' ⟨rfl, rfl⟩
  rw [hW]
  go_wp2_with fail
  go_ret
  exact ⟨rfl, Below.refl _ _⟩
theorem deep_in (b off n c : Nat) (ns : List Nd) (w : World) (h : NodesAt w (.slice (some ⟨b, off, none⟩) n c) ns) (hl : Hid (ns.length = n)) (h1 : 0 < n) (hn : n ≤ 1000000) (hb : b < w.heap.size) (hc : Hid (CellsIn w b off (nodeCells ns))) (hW : Hid (wholeB (kk ns) = true)) :
    Calls Try.prog 25 #[.slice (some ⟨b, off, none⟩) n c] w fun e w' => e = .returned (.int .i64 (deepI (kk ns))) ∧ Below w.heap.size w w' := by
  go_enter Try.func25, Try.ntmps25
  go_wp2_with fail
  refine (whole_any _ ns _ h (by rw [hl.out]; exact hn)).mono ?_
  rintro e w' ⟨rfl, rfl⟩
  rw [hW.out]
  go_wp2_with fail
  refine (search_deep b off n c (kk ns) w _ h1 hn (by rw [length_kk, hl.out]) hb (fun m hm => hc.out.kids m (by rw [hl.out]; exact hm)) hW.out (dr_start w _ hW.out)).mono ?_
  rintro e w1 ⟨⟨y, rfl⟩, hb1, hD⟩
  have cD := cell_of_one hD
  go_wp2_with fail
  go_ret
  exact ⟨rfl, hb1⟩
def IRet (W : World) (x : Int) (e : Ending) (w' : World) : Prop := ∃ y : Int, y = x ∧ e = .returned (.int .i64 y) ∧ Below W.heap.size W w'
theorem nodes_slice' {w : World} {v : Value} {ns : List Nd} (h : NodesAt w v ns) (hp : 0 < ns.length) : ∃ b off c, v = .slice (some ⟨b, off, none⟩) ns.length c ∧ ns.length ≤ c ∧ c ≤ maxLen ∧ b < w.heap.size ∧ CellsIn w b off (nodeCells ns) := by
  obtain ⟨_, p, c, rfl, h1, h2, h4⟩ := h
  obtain ⟨b, off, rfl, h5, h6⟩ := h4 (by omega)
  exact ⟨b, off, c, rfl, h1, h2, h5, h6⟩
theorem deep_any (v : Value) (ns : List Nd) (w : World) (h : NodesAt w v ns) (hn : ns.length ≤ 1000000) : Calls Try.prog 25 #[v] w (IRet w (deepI (kk ns))) := by
  cases hW : wholeB (kk ns) with
  | false =>
    refine (deep_not v ns w h hn hW).mono ?_
    rintro e w' ⟨rfl, hb⟩
    exact ⟨_, by simp [deepI, hW], rfl, hb⟩
  | true =>
    have hp := wholeB_pos _ hW
    rw [length_kk] at hp
    obtain ⟨b, off, c, rfl, _, _, hb, hc⟩ := nodes_slice' h hp
    refine (deep_in b off ns.length c ns w h rfl hp hn hb hc hW).mono ?_
    rintro e w' ⟨rfl, hb⟩
    exact ⟨_, rfl, rfl, hb⟩
end Go.Proofs.Ytlalnmefppbebaa
