/- The contracts of Key, the program's and the document's: whether a text is one of the words and signs. -/
import Derived.Test.YtkmgapieoedelaaClasses
namespace Go.Proofs.Ytkmgapieoedelaa
open Go.RowKit Go.Proofs.LexMath

set_option maxRecDepth 100000 in
set_option maxHeartbeats 1000000 in
theorem key_any (s : ByteArray) (w : World) : Calls Try.prog 45 #[.string s] w fun e w' => e = .returned (.bool (key s.data.toList)) ∧ w = w' := by
  go_enter Try.func45, Try.ntmps45
  go_wp2
  all_goals go_ret
  all_goals (refine ⟨ret_bool ?_, rfl⟩; simp_all [ByteArray.toList_eq, key, keys])
def keyVals : List Value := keys.map fun k => .string (bs k)
theorem words_any (w : World) : Calls Try.prog 63 #[] w fun e w' => e = .returned (.slice (some ⟨w.heap.size, 0, none⟩) 25 25) ∧ w.alloc (.cells keyVals.toArray 9) = w' := by
  go_enter Try.func63, Try.ntmps63
  go_wp2
  go_ret
  exact ⟨rfl, rfl⟩
theorem take_contains (L : List Bs) (s : Bs) (k : Nat) (hl : k < L.length) : (L.take (k + 1)).contains s = ((L.take k).contains s || (L.getD k [] == s)) := by
  rw [List.take_succ_eq_append_getElem hl, Bool.eq_iff_iff]
  have e : L.getD k [] = L[k] := by simp [List.getD_eq_getElem?_getD, List.getElem?_eq_getElem hl]
  rw [e]
  simp only [List.contains_eq_mem, decide_eq_true_eq, List.mem_append, List.mem_singleton, Bool.or_eq_true, beq_iff_eq]
  constructor <;> rintro (h | h) <;> first | exact .inl h | exact .inr h.symm
theorem keys_take (s : Bs) (k : Nat) (h : k < 25) : (keys.take (k + 1)).contains s = ((keys.take k).contains s || (keys.getD k [] == s)) := take_contains keys s k h
set_option maxRecDepth 100000 in
set_option maxHeartbeats 400000 in
theorem rkey_any (s : ByteArray) (w : World) : Calls Try.prog 51 #[.string s] w fun e w' => e = .returned (.bool (key s.data.toList)) ∧ Below w.heap.size w w' := by
  have hcell : ∀ k, k < 25 → (w.alloc (.cells keyVals.toArray 9)).cell? ⟨w.heap.size, k, none⟩ = some (.string (bs (keys.getD k []))) := by
    intro k hk
    rw [cells_new]
    have hl : k < keys.length := hk
    simp [keyVals, List.getElem?_eq_getElem hl, List.getD_eq_getElem?_getD]
  have ba : Below w.heap.size w (w.alloc (.cells keyVals.toArray 9)) := (Below.refl _ _).alloc (Nat.le_refl _) _
  have HB := Lib.hid ba
  have HC := Lib.hid hcell
  clear ba hcell
  go_enter Try.func51, Try.ntmps51
  go_wp2_with fail
  refine (words_any _).mono ?_
  rintro e w1 ⟨rfl, hw1⟩
  have HC1 : Hid (∀ k, k < 25 → w1.cell? ⟨w.heap.size, k, none⟩ = some (.string (bs (keys.getD k [])))) := by rw [← hw1]; exact HC.out
  have HB1 : Hid (Below w.heap.size w w1) := by rw [← hw1]; exact HB.out
  clear hw1 HB HC
  go_wp2
  go_loop [4] (fun i => ∃ k : Nat, k ≤ 25 ∧ i = .int .i64 k ∧ (keys.take k).contains s.data.toList = false) (fun i => 25 - (intOf i).toNat)
  case atStart => exact ⟨0, by omega, rfl, rfl⟩
  case round =>
    obtain ⟨k, hk, rfl, hf⟩ := hrel
    have HF := Lib.hid hf
    clear hf
    by_cases hlt : k < 25
    · have e := keys_take s.data.toList k hlt
      rw [HF.out, Bool.false_or] at e
      have hc := HC1.out k hlt
      have e2 : ((bs (keys.getD k [])).toList == s.toList) = (keys.getD k [] == s.data.toList) := by rw [ByteArray.toList_eq, ByteArray.toList_eq, bs_list]
      generalize keys.getD k [] = q at *
      rw [← e2] at e
      have HE := Lib.hid e
      clear e e2
      go_wp2
      · go_ret
        refine ⟨ret_bool ?_, HB1.out⟩
        have h1 : ((bs q).toList == s.toList) = true := by assumption
        rw [h1] at HE
        have h2 := HE.out
        simp only [List.contains_eq_mem, decide_eq_true_eq] at h2
        unfold key
        simp only [List.contains_eq_mem]
        exact (decide_eq_true (List.mem_of_mem_take h2)).symm
      · have h1 : ((bs q).toList == s.toList) = false := by assumption
        go_round
        case rel => exact ⟨k + 1, by omega, by go_num, by rw [HE.out, h1]⟩
        case measure => simp [intOf]; omega
    · go_wp2
      go_ret
      refine ⟨ret_bool ?_, HB1.out⟩
      obtain rfl : k = 25 := by omega
      exact HF.out.symm
end Go.Proofs.Ytkmgapieoedelaa
