/- Texts of this seat, one behind the other: DaW, DgC. -/
import Derived.Test.YtncifeeinogcnaaDoorKn34
import Derived.Test.YtncifeeinogcnaaDoorKn24
import Derived.Test.YtncifeeinogcnaaDoorKn33
/- The law's walk: the type of a function, and its parts. -/
set_option maxRecDepth 100000
namespace Go.Proofs.YtncifeeinogcnaaDoor
open Go.Shelf Go.RowKit Go.Lib Go.Sort Go.Maps Go.Proofs.TreeMath Go.Proofs.LexMath

theorem arrN_len (Ls : List (List Nd)) (tl : List Nd) (h : ∀ L ∈ Ls, L.length ≤ 60) : (arrN Ls tl).length ≤ Ls.length * 61 + tl.length := by
  unfold arrN
  rw [List.length_append]
  have : (arrL Ls).length ≤ Ls.length * 61 := by
    unfold arrL
    induction Ls with
    | nil => simp
    | cons L Ls ih =>
      have h1 := ih fun L hL => h L (List.mem_cons_of_mem _ hL)
      have h2 := h L (List.mem_cons_self ..)
      rw [List.flatMap_cons, List.length_append, List.length_cons, List.length_cons]
      omega
  omega
theorem arrN_small (Ls : List (List Nd)) (tl : List Nd) (h : ∀ L ∈ Ls, SmallN L) (ht : SmallN tl) : SmallN (arrN Ls tl) := by
  intro f hf
  unfold arrN arrL at hf
  rcases List.mem_append.1 hf with hf | hf
  · obtain ⟨L, hL, hm⟩ := List.mem_flatMap.1 hf
    rcases List.mem_cons.1 hm with rfl | hm
    · show arrH.text.size ≤ 100000000; decide
    · exact h L hL f hm
  · exact ht f hf
theorem Pt.inv2 {t : T} {L : List T} {r : T} (h : Pt t L r) : (t.1.text ≠ sArrow ∧ L = [] ∧ r = t) ∨ (∃ n a b L', t = (n, .cons a.1 a.2 (.cons b.1 b.2 .nil)) ∧ n.text = sArrow ∧ L = a :: L' ∧ Pt b L' r) := by
  cases h with
  | fin _ h => exact .inl ⟨h, rfl, rfl⟩
  | arr n a b L' r' ha hp => exact .inr ⟨n, a, b, L', rfl, ha, rfl, hp⟩
theorem pt_det {t : T} {L : List T} {r : T} (h : Pt t L r) : ∀ {L' : List T} {r' : T}, Pt t L' r' → L = L' ∧ r = r' := by
  induction h with
  | fin t ha =>
    intro L' r' k
    rcases k.inv2 with ⟨_, rfl, rfl⟩ | ⟨n, a, b, L2, e, h, rfl, k2⟩
    · exact ⟨rfl, rfl⟩
    · subst e
      exact absurd h ha
  | arr n a b L r ha _ ih =>
    intro L' r' k
    rcases k.inv2 with ⟨h, _, _⟩ | ⟨n2, a2, b2, L2, e, _, rfl, k2⟩
    · exact absurd ha h
    · simp only [Prod.mk.injEq, F.cons.injEq, and_true] at e
      obtain ⟨_, h1, h2, h3, h4⟩ := e
      obtain rfl : a = a2 := Prod.ext h1 h2
      obtain rfl : b = b2 := Prod.ext h3 h4
      obtain ⟨rfl, rfl⟩ := ih k2
      exact ⟨rfl, rfl⟩
theorem tyB_of {t : T} (h : GT t) (hz : (flatT t).length ≤ 4000) : tyB (flatT t) = true := by
  unfold tyB
  simp only [Bool.and_eq_true, decide_eq_true_eq]
  exact ⟨⟨hz, whole_flat (.cons t.1 t.2 .nil) ⟨h.2.1, h.1, trivial⟩ rfl⟩, List.all_eq_true.2 h.2.2⟩
/-- A copy of a list of lists. -/
theorem lists_row {w w' : World} {B : Nat} {v u : Value} {Ls : List (List Nd)} {vs : List Value} (h : ListsAt w v Ls) (hv : ∀ vs', SliceAt w 1 v Ls.length vs' → vs' = vs) (hr : w'.ownsRow B 36 1 u Ls.length vs) (b : Below w.heap.size w w') : ListsAt w' u Ls := by
  obtain ⟨vs', hs, hp⟩ := h
  obtain rfl := hv vs' hs
  exact ⟨vs', SliceAt.of_owns hr, fun i hi => (hp i hi).below b⟩
theorem slice_same {w : World} {v : Value} {n : Nat} {vs vs' : List Value} (h : SliceAt w 1 v n vs) (h' : SliceAt w 1 v n vs') : vs' = vs := by
  obtain ⟨hl, p, c, rfl, _, _, hp⟩ := h
  obtain ⟨hl', p', c', e, _, _, hp'⟩ := h'
  simp only [Value.slice.injEq] at e
  obtain ⟨rfl, -, rfl⟩ := e
  refine List.ext_getElem (by omega) fun i h1 h2 => ?_
  obtain ⟨b, o, rfl, _, hc⟩ := hp (by omega)
  obtain ⟨b', o', e, _, hc'⟩ := hp' (by omega)
  simp only [Option.some.injEq, Addr.mk.injEq, and_true] at e
  obtain ⟨rfl, rfl⟩ := e
  have x := hc i _ (List.getElem?_eq_getElem h2)
  have y := hc' i _ (List.getElem?_eq_getElem h1)
  rw [x] at y
  simpa using y.symm
end Go.Proofs.YtncifeeinogcnaaDoor
/- An arrow of types is a type. -/
set_option maxRecDepth 100000
namespace Go.Proofs.YtncifeeinogcnaaDoor
open Go.Shelf Go.RowKit Go.Lib Go.Sort Go.Maps Go.Proofs.TreeMath Go.Proofs.LexMath

theorem gt_arr (tl : List Nd) (ht : tyB tl = true) : ∀ Ls : List (List Nd), (∀ l ∈ Ls, tyB l = true) → ∃ t, GT t ∧ flatT t = arrN Ls tl := by
  intro Ls
  induction Ls with
  | nil =>
    intro _
    obtain ⟨t, h, e, _⟩ := type_tree ht
    exact ⟨t, h, by rw [e]; simp [arrN, arrL]⟩
  | cons L Ls ih =>
    intro h
    obtain ⟨a, ga, fa, _⟩ := type_tree (h L (List.mem_cons_self ..))
    obtain ⟨b, gb, fb⟩ := ih fun l hl => h l (List.mem_cons_of_mem _ hl)
    have e : flatT (arrH, F.cons a.1 a.2 (.cons b.1 b.2 .nil)) = arrH :: (flatT a ++ flatT b) := by simp [flatT, F.flat]
    refine ⟨(arrH, .cons a.1 a.2 (.cons b.1 b.2 .nil)), ⟨⟨ga.2.1, ga.1, gb.2.1, gb.1, trivial⟩, rfl, fun n hn => ?_⟩, ?_⟩
    · rw [e] at hn
      rcases List.mem_cons.1 hn with rfl | hn
      · decide +kernel
      · rcases List.mem_append.1 hn with hn | hn
        · exact ga.2.2 n hn
        · exact gb.2.2 n hn
    · rw [e, fa, fb]
      simp [arrN, arrL]
theorem tyB_arr {Ls : List (List Nd)} {tl : List Nd} (hl : ∀ l ∈ Ls, tyB l = true) (ht : tyB tl = true) (hz : (arrN Ls tl).length ≤ 4000) : tyB (arrN Ls tl) = true := by
  obtain ⟨t, g, e⟩ := gt_arr tl ht Ls hl
  have := tyB_of g (by rw [e]; exact hz)
  rw [e] at this
  exact this
theorem tyB_pos {t : List Nd} (h : tyB t = true) : 1 ≤ t.length := by
  obtain ⟨x, _, e, _⟩ := type_tree h
  rw [← e, flatT_length]
  unfold szT; omega
end Go.Proofs.YtncifeeinogcnaaDoor
