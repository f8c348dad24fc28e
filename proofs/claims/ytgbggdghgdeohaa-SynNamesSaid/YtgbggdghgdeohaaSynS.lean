/- The laws' mathematics: a pattern's names. -/
import Derived.Test.YtgbggdghgdeohaaSynP
namespace Go.Proofs.Ytgbggdghgdeohaa
open Go.RowKit Go.Proofs.TreeMath
theorem vars_names (f : F) : ∀ q i, chkF f q i = 0 → ∀ s ∈ varsF f, nameB s = true := by
  induction f with
  | nil => intro q i _ s hs; simp [varsF] at hs
  | cons n k r hk hr =>
    intro q i h s hs
    simp only [chkF, or_eq_zero] at h
    rw [varsF, List.mem_append, List.mem_append] at hs
    rcases hs with hs | hs | hs
    · by_cases h22 : n.kind = 22
      · rw [if_pos h22] at hs
        simp at hs
        subst hs
        have a := h.1
        unfold faultE at a
        split at a
        · rw [if_neg (by omega)] at a
          unfold textE at a
          rw [show sortN n.kind = 1 by rw [h22]; decide] at a
          cases hx : nameB n.text with
          | true => rfl
          | false => rw [hx] at a; simp at a
        · cases a
      · rw [if_neg h22] at hs; simp at hs
    · exact hk _ _ h.2.1 s hs
    · exact hr _ _ h.2.2 s hs
def z9 : ByteArray := ⟨#[122, 57]⟩
theorem z9_name : nameB z9 = true := by decide +kernel
/-- The names, applied one to another, the last one first; at the end z9. -/
def vR : List ByteArray → F
  | [] => .cons ⟨3, z9, 0, 0⟩ .nil .nil
  | x :: l => .cons ⟨6, ByteArray.empty, 0, 2⟩ (.cons ⟨3, x, 0, 0⟩ .nil (vR l)) .nil
theorem vR_cnt (l : List ByteArray) : (vR l).cnt = 1 := by cases l <;> rfl
theorem vR_ok (l : List ByteArray) : (vR l).ok := by
  induction l with
  | nil => exact ⟨rfl, trivial, trivial⟩
  | cons x l ih => exact ⟨by simp [F.cnt, vR_cnt], ⟨rfl, trivial, ih⟩, trivial⟩
theorem vR_sz (l : List ByteArray) : (vR l).sz = 1 + 2 * l.length := by
  induction l with
  | nil => rfl
  | cons x l ih => simp only [vR, F.sz, ih, List.length_cons]; omega
theorem vR_deep (l : List ByteArray) : deepF (vR l) = l.length + 1 := by
  induction l with
  | nil => rfl
  | cons x l ih => simp only [vR, deepF, ih, List.length_cons]; omega
theorem fault_var (s : ByteArray) (hk : Int) (h : nameB s = true) : faultE ⟨3, s, 0, 0⟩ hk 0 = 0 := by simp [faultE, allowsB, numB, kidsB, textE, sortN, h]
theorem fault_app (hk : Int) : faultE ⟨6, ByteArray.empty, 0, 2⟩ hk 0 = 0 := by simp [faultE, allowsB, numB, kidsB, textE, sortN]
theorem below_app : belowP 0 6 = fun _ => 0 := by funext i; simp [belowP]
theorem below_var : belowP 0 3 = fun _ => 0 := by funext i; simp [belowP]
theorem vR_chk (l : List ByteArray) : (∀ s ∈ l, nameB s = true) → ∀ q i, q i = 0 → chkF (vR l) q i = 0 := by
  induction l with
  | nil => intro _ q i hq; simp only [vR, chkF, hq, headK, fault_var _ _ z9_name]; rfl
  | cons x l ih =>
    intro h q i hq
    simp only [vR, chkF, hq, fault_app, below_app, headK]
    rw [fault_var x _ (h x (by simp)), ih (fun s hs => h s (by simp [hs])) (fun _ => 0) (0 + 1) rfl]
    rfl
theorem vR_tw (l : List ByteArray) : ∀ q i, q i = 0 → twF (vR l) q i = 0 := by
  induction l with
  | nil => intro q i hq; simp [vR, twF, hq, twE, or_]
  | cons x l ih =>
    intro q i hq
    simp only [vR, twF, hq, below_app]
    rw [ih (fun _ => 0) (0 + 1) rfl]
    simp [twE, or_]
theorem vR_free (l : List ByteArray) : ∀ i, freeK (vR l) 6 ByteArray.empty i [] = l ++ [z9] := by
  induction l with
  | nil => intro i; rw [vR, freeK_exp _ _ _ _ _ _ _ (by simp)]; simp [bindsB, freeT, freeK, lessL, inB]
  | cons x l ih =>
    intro i
    rw [vR, freeK_exp _ _ _ _ _ _ _ (by simp)]
    have e : freeT ⟨6, ByteArray.empty, 0, 2⟩ (.cons ⟨3, x, 0, 0⟩ .nil (vR l)) = x :: (l ++ [z9]) := by
      unfold freeT
      rw [if_neg (by simp), freeK_exp _ _ _ _ _ _ _ (by simp)]
      have hb : bindsB 6 0 = false := by decide
      simp only [hb, Bool.false_eq_true, if_false]
      rw [show (0 + 1) = 1 from rfl, ih 1]
      simp [freeT, freeK, lessL, inB]
    rw [e]
    have hb : bindsB 6 i = false := by simp [bindsB]
    simp [hb, freeK, lessL, inB]
theorem vR_T (l : List ByteArray) : ∃ n k, vR l = .cons n k .nil ∧ freeT n k = l ++ [z9] := by
  cases l with
  | nil => exact ⟨_, _, rfl, by simp [freeT, freeK]⟩
  | cons x l =>
    refine ⟨_, _, rfl, ?_⟩
    have := vR_free (x :: l) 0
    rw [vR, freeK_exp _ _ _ _ _ _ _ (by simp)] at this
    have hb : bindsB 6 0 = false := by decide
    simp only [hb, Bool.false_eq_true, if_false, freeK, List.append_nil, lessL_nil] at this
    exact this
/-- What is matched. -/
def mF (pn : Nd) (pk : F) (l : List ByteArray) : F := .cons ⟨10, ByteArray.empty, 0, 3⟩ (.cons ⟨1, ByteArray.empty, 0, 0⟩ .nil (.cons pn pk (vR l))) .nil
theorem mF_flat (pn : Nd) (pk : F) (l : List ByteArray) : (mF pn pk l).flat = ⟨10, ByteArray.empty, 0, 3⟩ :: ⟨1, ByteArray.empty, 0, 0⟩ :: ((pn :: pk.flat) ++ (vR l).flat) := by simp [mF, F.flat]
theorem mF_syn (pn : Nd) (pk : F) (l : List ByteArray) (h : synE (.cons pn pk .nil) 1 = 0) (h1 : 1 + pk.sz ≤ 120) (h2 : 1 + deepF pk ≤ 90) (hl : l.length ≤ 50) (hn : ∀ s ∈ l, nameB s = true) : synE (mF pn pk l) 0 = 0 := by
  obtain ⟨z1, z2, z3, z4⟩ := synE_zero h
  simp only [chkF, or_eq_zero] at z3
  simp only [twF, or_eq_zero] at z4
  obtain ⟨a1, a2, _⟩ := z3
  obtain ⟨b1, b2, _⟩ := z4
  have e0 : belowP 0 10 0 = 0 := by decide
  have e1 : belowP 0 10 1 = 1 := by decide
  have e2 : belowP 0 10 2 = 0 := by decide
  have f10 : ∀ hk, faultE ⟨10, ByteArray.empty, 0, 3⟩ hk 0 = 0 := by intro hk; simp [faultE, allowsB, numB, kidsB, textE, sortN]
  have f1 : ∀ hk, faultE ⟨1, ByteArray.empty, 0, 0⟩ hk 0 = 0 := by intro hk; simp [faultE, allowsB, numB, kidsB, textE, sortN, Lx.wr]
  have v1 := vR_chk l hn (belowP 0 10) 2 e2
  have v2 := vR_tw l (belowP 0 10) 2 e2
  unfold synE
  rw [if_neg (by simp only [mF, F.sz, deepF, vR_sz, vR_deep]; omega), or_eq_zero]
  have hv : twE 1 (varsF (.cons pn pk .nil)) = 0 := b1
  constructor
  · simp only [mF, chkF, f10, f1, e0, e1, a1, a2, v1, Nat.zero_add, Nat.reduceAdd]
    rfl
  · simp only [mF, twF, e0, e1, hv, b2, v2, Nat.zero_add, Nat.reduceAdd]
    simp [twE, or_]
theorem mF_free (pn : Nd) (pk : F) (l : List ByteArray) (hl : ∀ s ∈ l, s ∈ varsF (.cons pn pk .nil)) (hz : inB z9 (varsF (.cons pn pk .nil)) = false) :
    freeT ⟨10, ByteArray.empty, 0, 3⟩ (.cons ⟨1, ByteArray.empty, 0, 0⟩ .nil (.cons pn pk (vR l))) = [z9] := by
  obtain ⟨n, k, hv, hf⟩ := vR_T l
  unfold freeT
  rw [if_neg (by simp), freeK_exp _ _ _ _ _ _ _ (by simp), freeK_pat _ _ _ _ _ _ _ (by simp), hv, freeK_exp _ _ _ _ _ _ _ (by simp), hf]
  have hb : ∀ i, bindsB 10 i = false := fun i => by simp [bindsB]
  simp only [hb, Bool.false_eq_true, if_false]
  rw [lessL_append]
  have e1 : lessL l (varsF (.cons pn pk .nil)) = [] := by
    unfold lessL
    rw [List.filter_eq_nil_iff]
    intro s hs
    rw [inB_iff.2 (hl s hs)]
    simp
  have e2 : lessL [z9] (varsF (.cons pn pk .nil)) = [z9] := by simp [lessL, hz]
  rw [e1, e2]
  simp [freeT, freeK, lessL]
end Go.Proofs.Ytgbggdghgdeohaa
