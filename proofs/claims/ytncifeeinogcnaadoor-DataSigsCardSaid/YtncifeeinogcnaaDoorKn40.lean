/- Texts of this seat, one behind the other: DgD. -/
import Derived.Test.YtncifeeinogcnaaDoorKn37
import Derived.Test.YtncifeeinogcnaaDoorKn39
import Derived.Test.YtncifeeinogcnaaDoorKn27
/- What DataSigs asks: the places of constructors, the types of declarations, their variables. -/
set_option maxRecDepth 100000
namespace Go.Proofs.YtncifeeinogcnaaDoor
open Go.Shelf Go.RowKit Go.Lib Go.Sort Go.Maps Go.Proofs.TreeMath Go.Proofs.LexMath

theorem mem_foldv (v : Int) : ∀ (t : List Nd) (acc : List Int), v ∈ t.foldl vstep acc ↔ v ∈ acc ∨ ∃ n ∈ t, n.kind = 31 ∧ n.num = v := by
  intro t
  induction t with
  | nil => intro acc; simp
  | cons a t ih =>
    intro acc
    rw [List.foldl_cons, ih]
    unfold vstep
    split
    · rename_i h
      simp only [List.mem_append, List.mem_cons, List.not_mem_nil, or_false, exists_eq_or_imp]
      constructor
      · rintro ((h1 | h1) | h1)
        · exact .inl h1
        · exact .inr (.inl ⟨h.1, h1.symm⟩)
        · exact .inr (.inr h1)
      · rintro (h1 | ⟨_, h1⟩ | h1)
        · exact .inl (.inl h1)
        · exact .inl (.inr h1.symm)
        · exact .inr h1
    · rename_i h
      simp only [List.mem_cons, exists_eq_or_imp]
      constructor
      · rintro (h1 | h1)
        · exact .inl h1
        · exact .inr (.inr h1)
      · rintro (h1 | ⟨h0, h1⟩ | h1)
        · exact .inl h1
        · by_cases hm : a.num ∈ acc
          · exact .inl (h1 ▸ hm)
          · exact absurd ⟨h0, hm⟩ h
        · exact .inr h1
theorem varsN_nodup (t : List Nd) : (varsN t).Nodup := by
  have : ∀ (t : List Nd) (acc : List Int), acc.Nodup → (t.foldl vstep acc).Nodup := by
    intro t
    induction t with
    | nil => intro acc h; exact h
    | cons n t ih =>
      intro acc h
      refine ih _ ?_
      unfold vstep
      split
      · rename_i h2
        rw [List.nodup_append]
        refine ⟨h, by simp, fun a ha b hb => ?_⟩
        rw [List.mem_singleton] at hb
        subst hb
        intro e
        subst e
        exact h2.2 ha
      · exact h
  exact this t [] (by simp)
theorem nodup_le {α : Type} [DecidableEq α] : ∀ (A B : List α), A.Nodup → (∀ x ∈ A, x ∈ B) → A.length ≤ B.length := by
  intro A
  induction A with
  | nil => intro B _ _; simp
  | cons a A ih =>
    intro B hn hs
    rw [List.nodup_cons] at hn
    have ha := hs a (List.mem_cons_self ..)
    have h1 := ih (B.erase a) hn.2 fun x hx => (List.mem_erase_of_ne (fun e => hn.1 (by rw [← e]; exact hx))).2 (hs x (List.mem_cons_of_mem _ hx))
    rw [List.length_erase_of_mem ha] at h1
    have : 0 < B.length := List.length_pos_of_mem ha
    rw [List.length_cons]
    omega
theorem mem_varsN (v : Int) (t : List Nd) : v ∈ varsN t ↔ ∃ n ∈ t, n.kind = 31 ∧ n.num = v := by
  have := mem_foldv v t []
  simpa [varsN] using this
theorem ints_nodup (p : Nat) : ((List.range p).map fun i => ((i : Nat) : Int)).Nodup := by
  rw [List.Nodup, List.pairwise_map]
  exact List.nodup_range.imp fun h e => h (by omega)
theorem prm_mem (p : Nat) (n : Nd) : n ∈ (prmL p).flatten ↔ ∃ i, i < p ∧ n = vN (i : Nat) := by
  unfold prmL
  rw [List.mem_flatten]
  constructor
  · rintro ⟨l, hl, hn⟩
    obtain ⟨i, hi, rfl⟩ := List.mem_map.1 hl
    rw [List.mem_singleton] at hn
    exact ⟨i, List.mem_range.1 hi, hn⟩
  · rintro ⟨i, hi, rfl⟩
    exact ⟨_, List.mem_map.2 ⟨i, List.mem_range.2 hi, rfl⟩, by simp⟩
theorem vars_arr (p : Int) (c : Ct) (d : Dt) (hp : d.params = p) (h0 : 0 ≤ p) (hr : rightC p c = true) : ((varsN (arrN c.args (declN d))).length : Int) = p := by
  have hA : ∀ v, v ∈ varsN (arrN c.args (declN d)) ↔ 0 ≤ v ∧ v < p := by
    intro v
    rw [mem_varsN]
    constructor
    · rintro ⟨n, hn, hk, rfl⟩
      unfold arrN at hn
      rcases List.mem_append.1 hn with hn | hn
      · unfold arrL at hn
        obtain ⟨L, hL, hn⟩ := List.mem_flatMap.1 hn
        rcases List.mem_cons.1 hn with rfl | hn
        · exact absurd hk (by decide)
        · unfold rightC at hr
          simp only [Bool.and_eq_true] at hr
          have h1 := List.all_eq_true.1 hr.1.2 L hL
          unfold tyB at h1
          simp only [Bool.and_eq_true] at h1
          have h2 := List.all_eq_true.1 h1.2 n hn
          unfold rightN at h2
          rw [if_pos hk] at h2
          simp only [Bool.and_eq_true, decide_eq_true_eq] at h2
          have h3 := hr.2
          unfold hasP at h3
          simp only [Bool.not_eq_true', List.any_eq_false] at h3
          have h4 := h3 L hL
          rw [List.any_eq_true] at h4
          refine ⟨h2.1.1.1, ?_⟩
          apply Classical.byContradiction
          intro hge
          exact h4 ⟨n, hn, by unfold farV; simp [hk]; omega⟩
      · unfold declN makeN at hn
        rcases List.mem_cons.1 hn with rfl | hn
        · exact absurd (show (32 : Int) = 31 from hk) (by decide)
        · obtain ⟨i, hi, rfl⟩ := (prm_mem _ n).1 hn
          show 0 ≤ ((i : Nat) : Int) ∧ ((i : Nat) : Int) < p
          omega
    · rintro ⟨h1, h2⟩
      refine ⟨vN v, ?_, rfl, rfl⟩
      unfold arrN declN makeN
      refine List.mem_append_right _ (List.mem_cons_of_mem _ ((prm_mem _ _).2 ⟨v.toNat, by omega, ?_⟩))
      rw [Int.toNat_of_nonneg h1]
  obtain ⟨q, rfl⟩ : ∃ q : Nat, p = q := ⟨p.toNat, by omega⟩
  have l1 := nodup_le _ ((List.range q).map fun i => ((i : Nat) : Int)) (varsN_nodup (arrN c.args (declN d))) fun v hv => by
    have := (hA v).1 hv
    exact List.mem_map.2 ⟨v.toNat, List.mem_range.2 (by omega), by omega⟩
  have l2 := nodup_le ((List.range q).map fun i => ((i : Nat) : Int)) _ (ints_nodup q) fun v hv => by
    obtain ⟨i, hi, rfl⟩ := List.mem_map.1 hv
    exact (hA _).2 ⟨by omega, by have := List.mem_range.1 hi; omega⟩
  rw [List.length_map, List.length_range] at l1 l2
  omega
def vF : List Int → F
  | [] => .nil
  | v :: l => .cons (vN v) .nil (vF l)
theorem vF_flat (l : List Int) : (vF l).flat = l.map vN := by
  induction l with
  | nil => rfl
  | cons v l ih => simp [vF, F.flat, ih]
theorem vF_cnt (l : List Int) : (vF l).cnt = l.length := by
  induction l with
  | nil => rfl
  | cons v l ih => simp [vF, F.cnt, ih]; try omega
theorem vF_ok (l : List Int) : (vF l).ok := by
  induction l with
  | nil => trivial
  | cons v l ih => exact ⟨rfl, trivial, ih⟩
theorem declN_len (d : Dt) : (declN d).length = 1 + d.params.toNat := by unfold declN makeN; rw [List.length_cons, prmL_flat]; omega
theorem name_not {s : ByteArray} (h : nameB s = true) : s ≠ sArrow ∧ s ≠ sInt ∧ s ≠ sText ∧ s ≠ sRef :=
  ⟨fun e => by rw [e] at h; exact absurd h (by decide +kernel), fun e => by rw [e] at h; exact absurd h (by decide +kernel), fun e => by rw [e] at h; exact absurd h (by decide +kernel), fun e => by rw [e] at h; exact absurd h (by decide +kernel)⟩
theorem tyB_decl (d : Dt) (hn : nameB d.name = true) (h0 : 0 ≤ d.params) (h8 : d.params ≤ 8) : tyB (declN d) = true := by
  obtain ⟨p, hp⟩ : ∃ p : Nat, d.params = p := ⟨d.params.toNat, by omega⟩
  have e1 : (prmL p).flatten = ((List.range p).map fun i => ((i : Nat) : Int)).map vN := by
    clear hp
    induction p with
    | zero => rfl
    | succ p ih => rw [prmL_succ, List.flatten_append, ih, List.range_succ, List.map_append, List.map_append]; rfl
  have e : flatT (⟨32, d.name, 0, p⟩, vF ((List.range p).map fun i => ((i : Nat) : Int))) = declN d := by
    unfold declN makeN
    rw [hp, Int.toNat_natCast, e1, prmL_len]
    simp [flatT, F.flat, vF_flat]
  have g : GT (⟨32, d.name, 0, p⟩, vF ((List.range p).map fun i => ((i : Nat) : Int))) := by
    refine ⟨vF_ok _, by rw [vF_cnt]; simp, fun n hn' => ?_⟩
    simp only [flatT, F.flat, vF_flat, List.append_nil, List.mem_cons] at hn'
    rcases hn' with rfl | hn'
    · obtain ⟨a1, a2, a3, a4⟩ := name_not hn
      unfold rightN conB
      rw [if_neg (show ¬ (32 : Int) = 31 by decide), if_pos rfl]
      simp only [a1, a2, a3, a4, if_false, hn, Bool.and_true]
      simp
      omega
    · obtain ⟨v, hv, rfl⟩ := List.mem_map.1 hn'
      obtain ⟨i, hi, rfl⟩ := List.mem_map.1 hv
      have := List.mem_range.1 hi
      unfold rightN vN
      simp
      omega
  have := tyB_of g (by rw [e, declN_len]; omega)
  rw [e] at this
  exact this
theorem pairs_at (ds : List Dt) (i j : Nat) (hi : i < ds.length) (hj : j < (ds.getD i default).cons.length) : (pairsOf ds)[(pairsOf (ds.take i)).length + j]? = some (ds.getD i default, (ds.getD i default).cons.getD j default) := by
  have e : pairsOf ds = pairsOf (ds.take i) ++ ((ds.getD i default).cons.map (fun c => (ds.getD i default, c)) ++ pairsOf (ds.drop (i + 1))) := by
    rw [← List.append_assoc, ← pairs_take ds i hi]
    unfold pairsOf; rw [← List.flatMap_append, List.take_append_drop]
  rw [e, List.getElem?_append_right (by omega), Nat.add_sub_cancel_left, List.getElem?_append_left (by rw [List.length_map]; exact hj), List.getElem?_map, List.getElem?_eq_getElem hj, List.getD_eq_getElem?_getD (l := (ds.getD i default).cons), List.getElem?_eq_getElem hj]
  rfl
theorem pairs_len_take (ds : List Dt) (i : Nat) (hi : i < ds.length) : (pairsOf (ds.take (i + 1))).length = (pairsOf (ds.take i)).length + (ds.getD i default).cons.length := by
  rw [pairs_take ds i hi, List.length_append, List.length_map]
theorem findC_at : ∀ (ds : List Dt) (k i j : Nat), (namesD ds).Nodup → i < ds.length → j < (ds.getD i default).cons.length → findD (fun _ c => decide (c.name = ((ds.getD i default).cons.getD j default).name)) ds k = some (k + i, j) := by
  intro ds
  induction ds with
  | nil => intro k i j _ hi; simp at hi
  | cons d ds ih =>
    intro k i j hn hi hj
    have en : namesD (d :: ds) = d.cons.map (·.name) ++ namesD ds := by
      unfold namesD pairsOf
      rw [List.flatMap_cons, List.map_append, List.map_map]
      rfl
    rw [en, List.nodup_append] at hn
    obtain ⟨hA, hB, hAB⟩ := hn
    cases i with
    | zero =>
      simp only [List.getD_cons_zero] at hj ⊢
      have hf : d.cons.findIdx? (fun c => decide (c.name = (d.cons.getD j default).name)) = some j := by
        rw [List.findIdx?_eq_some_iff_getElem]
        refine ⟨hj, by rw [List.getD_eq_getElem?_getD, List.getElem?_eq_getElem hj]; simp, fun x hx => ?_⟩
        rw [List.getD_eq_getElem?_getD, List.getElem?_eq_getElem hj]
        simp only [Option.getD_some, decide_eq_true_eq]
        intro e
        have := List.pairwise_iff_getElem.1 hA x j (by rw [List.length_map]; omega) (by rw [List.length_map]; exact hj) hx
        exact this (by simpa using e)
      unfold findD
      rw [hf]
      rfl
    | succ i =>
      simp only [List.getD_cons_succ] at hj ⊢
      rw [List.length_cons] at hi
      have hmem : ((ds.getD i default).cons.getD j default).name ∈ namesD ds := by
        unfold namesD
        have := pairs_at ds i j (by omega) hj
        exact List.mem_map.2 ⟨_, List.mem_of_getElem? this, rfl⟩
      have hf : d.cons.findIdx? (fun c => decide (c.name = ((ds.getD i default).cons.getD j default).name)) = none := by
        rw [List.findIdx?_eq_none_iff]
        intro c hc
        simp only [decide_eq_false_iff_not]
        intro e
        exact hAB c.name (List.mem_map.2 ⟨c, hc, rfl⟩) _ hmem e
      unfold findD
      rw [hf]
      simp only
      rw [ih (k + 1) i j hB (by omega) hj]
      congr 2
      omega
end Go.Proofs.YtncifeeinogcnaaDoor
