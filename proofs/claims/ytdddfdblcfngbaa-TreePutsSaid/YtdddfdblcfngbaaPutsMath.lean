/- What Put answers, as mathematics; a cut whose address bears one name. -/
import Derived.Test.YtdddfdblcfngbaaAwake
namespace Go.Proofs.Ytdddfdblcfngbaa
open Go.RowKit Go.Proofs.TreeMath
theorem slice_eq (b off n c k : Nat) (hk : k ≤ n) (hnc : n ≤ c) (W : World) :
    (Instr.sliceAt 22 (.slice (some ⟨b, off, none⟩) n c) (some (.int .i64 k)) none none).run Try.prog W = .ok (.slice (if c = k then some ⟨b, off, none⟩ else some ⟨b, off + k * 4, none⟩) (n - k) (c - k)) W := by
  have h0 : (0 : Int) ≤ k := by omega
  have h1 : (k : Int) ≤ n := by omega
  have h2 : k ≤ c := by omega
  by_cases hc : c = k
  · subst hc
    simp [go_sem, hk]
  · simp [go_sem, hk, hc]
/-- A cut from an index on, its address under one name. -/
theorem cut_from {w : World} {b off n c : Nat} {ns : List Nd} (hn : ns.length = n) (hnc : n ≤ c) (hcm : c ≤ 9223372036854775807) (hb : b < w.heap.size) (hc : CellsIn w b off (nodeCells ns)) (k : Nat) (hk : k ≤ n) :
    ∃ q, (∀ W, (Instr.sliceAt 22 (.slice (some ⟨b, off, none⟩) n c) (some (.int .i64 k)) none none).run Try.prog W = .ok (.slice q (n - k) (c - k)) W) ∧ NodesAt w (.slice q (n - k) (c - k)) (ns.drop k) := by
  refine ⟨_, fun W => slice_eq b off n c k hk hnc W, ?_⟩
  by_cases h : c = k
  · subst h
    rw [if_pos rfl, Nat.sub_self, List.drop_of_length_le (by omega), show n - c = 0 by omega]
    exact ⟨rfl, _, _, rfl, Nat.le_refl _, by unfold maxLen; omega, fun h => absurd rfl h⟩
  · rw [if_neg h]
    have := cut_nodes hn hnc hcm hb hc k n hk (Nat.le_refl _)
    rwa [List.take_of_length_le (by rw [List.length_drop]; omega)] at this
theorem putL_math (ns by' : List Nd) (i E : Nat) (hE : endI (kk ns) i = E) (hiE : i < E) (hEn : E ≤ ns.length) (hW : wholeB (kk by') = true) :
    putE ns i by' = false ∧ putL ns i by' = ns.take i ++ (by' ++ ns.drop E) ∧ subE (ns.take i ++ (by' ++ ns.drop E)) i = 0 ∧ subL (ns.take i ++ (by' ++ ns.drop E)) i = by' ∧
    putE ns i (subN ns i) = false ∧ putL ns i (subN ns i) = ns ∧ wholeB (kk (ns.take i ++ (by' ++ ns.drop E))) = wholeB (kk ns) := by
  have h1 : putE ns i by' = false := by unfold putE; rw [hE, hW]; simp
  have hA : (ns.take i).length = i := by rw [List.length_take]; omega
  have hT : wholeB (kk (subN ns i)) = true := by
    unfold subN
    rw [hE, Int.toNat_natCast, Int.toNat_natCast]
    have := sub_whole (kk ns) i (by rw [← endI_nat, hE]; omega)
    rw [← endI_nat, hE, Int.toNat_natCast] at this
    simpa [kk, List.map_take, List.map_drop] using this
  have hsplit : ns = ns.take i ++ (subN ns i ++ ns.drop E) := by
    unfold subN
    rw [hE, Int.toNat_natCast, Int.toNat_natCast]
    have e : ns.drop E = (ns.drop i).drop (E - i) := by rw [List.drop_drop]; congr 1; omega
    rw [e, List.take_append_drop, List.take_append_drop]
  have h2 : endI (kk (ns.take i ++ (by' ++ ns.drop E))) i = ((i + by'.length : Nat) : Int) := by
    have := fin_tree (kk (ns.take i)) (kk by') (kk (ns.drop E)) hW
    rw [length_kk, hA, length_kk] at this
    rw [endI_nat]
    simpa [kk] using this
  have h3 : putE ns i (subN ns i) = false := by unfold putE; rw [hE, hT]; simp
  refine ⟨h1, ?_, ?_, ?_, h3, ?_, ?_⟩
  · unfold putL
    rw [h1, hE]
    simp
  · unfold subE
    rw [h2, if_neg (by omega)]
  · unfold subL subN
    rw [h2, if_neg (by omega), Int.toNat_natCast, Int.toNat_natCast, Nat.add_sub_cancel_left]
    rw [List.drop_left' hA]
    simp
  · unfold putL
    rw [h3, hE]
    simp only [Int.toNat_natCast, Bool.false_eq_true, if_false]
    exact hsplit.symm
  · have := whole_put (kk (ns.take i)) (kk (subN ns i)) (kk by') (kk (ns.drop E)) hT hW
    rw [show kk (ns.take i ++ (by' ++ ns.drop E)) = kk (ns.take i) ++ (kk by' ++ kk (ns.drop E)) by simp [kk], ← this]
    rw [show kk (ns.take i) ++ (kk (subN ns i) ++ kk (ns.drop E)) = kk (ns.take i ++ (subN ns i ++ ns.drop E)) by simp [kk], ← hsplit]
end Go.Proofs.Ytdddfdblcfngbaa
