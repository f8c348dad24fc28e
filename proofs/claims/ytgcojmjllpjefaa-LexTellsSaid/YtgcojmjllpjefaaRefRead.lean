/- The contract of the document's own Read (package triglyphref01): a text that is the text of a number of the language is read as that number; of any other text there is none; nothing that was there is written. -/
import Derived.Test.YtgcojmjllpjefaaRefText
namespace Go.Proofs.Ytgcojmjllpjefaa
open Go.RowKit

set_option maxRecDepth 100000 in
set_option maxHeartbeats 400000 in
theorem rread_no (s : ByteArray) (w : World) (h : NoText s) (hs : s.size ≤ 100000) :
    Calls Try.prog 53 #[.string s] w fun e w' => e = .returned (.tuple #[.int .i64 0, .bool false]) ∧ Below w.heap.size w w' := by
  have hne : Hid (∀ n, ((shw (wr n)).toList == s.toList) = false) := fun n => ne_test (h _ (wr_range n).1 (wr_range n).2)
  clear h
  by_cases h0 : 0 < s.size
  · by_cases ht : s[0].toNat = 126
    · have e1 : ((s[0].toNat : Int) == 126) = true := by simp; omega
      clear ht
      by_cases hd : (s.extract 1 s.size).toList = [] ∨ 19 < s.size - 1
      · rcases hd with hd | hd
        · go_enter Try.func53, Try.ntmps53
          go_wp2_with fail
          go_ret2
          exact ⟨rfl, Below.refl _ _⟩
        · go_enter Try.func53, Try.ntmps53
          go_wp2_with fail
          all_goals first
            | (go_ret2; exact ⟨rfl, Below.refl _ _⟩)
            | (exfalso; omega)
      · have e2 : ¬ (s.extract 1 s.size).toList = [] := fun h => hd (.inl h)
        have e3 : (s.extract 1 s.size).toList.isEmpty = false := by simpa using e2
        have e4 : s.size - 1 ≤ 19 := by omega
        clear hd
        go_enter Try.func53, Try.ntmps53
        go_wp2_with fail
        go_loop [5, 6] (fun m i => ∃ (x : Int) (k : Nat), 0 ≤ x ∧ k ≤ s.size - 1 ∧ i = .int .i64 k ∧ m = .int .u64 x) (fun _ i => s.size - 1 - (intOf i).toNat)
        case atStart => exact ⟨0, 0, by omega, by omega, rfl, rfl⟩
        case round =>
          obtain ⟨x, k, hx, hk, rfl, rfl⟩ := hrel
          by_cases hlt : k < s.size - 1
          · go_wp2_with fail
            all_goals first
              | (go_ret2; exact ⟨rfl, Below.refl _ _⟩)
              | (go_round
                 case rel => exact ⟨_, k + 1, u64_nonneg _, by omega, by go_num, rfl⟩
                 case measure => simp [intOf]; omega)
          · have hne' := hne.out
            go_wp2_with (first
              | (go_at_call 58; refine (back_any _ _ (by first | omega | exact u64_nonneg _)).mono ?_; rintro e w' ⟨rfl, rfl⟩)
              | (go_at_call 41; refine (rshow_any _ _).mono ?_; rintro e w' ⟨rfl, hb⟩))
            all_goals first
              | (go_ret2; exact ⟨rfl, Below.refl _ _⟩)
              | (go_ret2; exact ⟨rfl, hb⟩)
    · have e1 : ((s[0].toNat : Int) == 126) = false := by simp; omega
      clear ht
      by_cases hd : s.toList = [] ∨ 19 < s.size
      · rcases hd with hd | hd
        · go_enter Try.func53, Try.ntmps53
          go_wp2_with fail
          go_ret2
          exact ⟨rfl, Below.refl _ _⟩
        · go_enter Try.func53, Try.ntmps53
          go_wp2_with fail
          all_goals first
            | (go_ret2; exact ⟨rfl, Below.refl _ _⟩)
            | (exfalso; omega)
      · have e2 : ¬ s.toList = [] := fun h => hd (.inl h)
        have e3 : s.toList.isEmpty = false := by simpa using e2
        have e4 : s.size ≤ 19 := by omega
        clear hd
        go_enter Try.func53, Try.ntmps53
        go_wp2_with fail
        go_loop [5, 6] (fun m i => ∃ (x : Int) (k : Nat), 0 ≤ x ∧ k ≤ s.size ∧ i = .int .i64 k ∧ m = .int .u64 x) (fun _ i => s.size - (intOf i).toNat)
        case atStart => exact ⟨0, 0, by omega, by omega, rfl, rfl⟩
        case round =>
          obtain ⟨x, k, hx, hk, rfl, rfl⟩ := hrel
          by_cases hlt : k < s.size
          · go_wp2_with fail
            all_goals first
              | (go_ret2; exact ⟨rfl, Below.refl _ _⟩)
              | (go_round
                 case rel => exact ⟨_, k + 1, u64_nonneg _, by omega, by go_num, rfl⟩
                 case measure => simp [intOf]; omega)
          · have hne' := hne.out
            go_wp2_with (first
              | (go_at_call 58; refine (back_any _ _ (by first | omega | exact u64_nonneg _)).mono ?_; rintro e w' ⟨rfl, rfl⟩)
              | (go_at_call 41; refine (rshow_any _ _).mono ?_; rintro e w' ⟨rfl, hb⟩))
            all_goals first
              | (go_ret2; exact ⟨rfl, Below.refl _ _⟩)
              | (go_ret2; exact ⟨rfl, hb⟩)
  · have e1 : s.toList = [] := by
      have : s.data.toList.length = 0 := by show s.data.size = 0; have h1 : s.size = s.data.size := rfl; omega
      rw [ByteArray.toList_eq]
      exact List.eq_nil_of_length_eq_zero this
    go_enter Try.func53, Try.ntmps53
    go_wp2_with fail
    go_ret2
    exact ⟨rfl, Below.refl _ _⟩
end Go.Proofs.Ytgcojmjllpjefaa
