/- The contract of word.Read: a text that is the text of a number of the language is read as that number; any other text is refused; nothing that was there is written. -/
import Derived.Test.YtgcojmjllpjefaaDigits
import Derived.Laws.RangeAny
namespace Go.Proofs.Ytgcojmjllpjefaa
open Go.RowKit

theorem width_pos (s : ByteArray) (pos : Nat) (h : pos < s.size) : 1 ≤ (Utf8.decode s pos).2 := by
  by_cases ha : (s[pos]'h).toNat < 128
  · rw [decode_ascii s pos h ha]
    exact Nat.le_refl _
  · exact (decode_high s pos h (by omega)).2
theorem below_iter (w : World) (s : ByteArray) (pos : Nat) : Below w.heap.size w (w.iter s pos) := (Below.refl _ _).alloc (Nat.le_refl _) _
theorem size_iter (w : World) (s : ByteArray) (pos : Nat) : (w.iter s pos).heap.size = w.heap.size + 1 := by simp [World.iter]
def NoText (s : ByteArray) : Prop := ∀ v, -4611686018427387904 ≤ v → v ≤ 4611686018427387903 → ¬ shw v = s

theorem ne_test {a b : ByteArray} (h : ¬ a = b) : (a.toList == b.toList) = false := by
  rw [ByteArray.toList_eq, ByteArray.toList_eq]
  simp only [beq_eq_false_iff_ne]
  exact fun e => h (Go.WideShapes.bytes_inj e)
theorem eq_test' {a b : List UInt8} (h : a = b) : (a == b) = true := by rw [h]; simp

set_option maxRecDepth 100000 in
set_option maxHeartbeats 400000 in
theorem read_no (s : ByteArray) (w : World) (h : NoText s) :
    Calls Try.prog 49 #[.string s] w fun e w' => e = .returned (.tuple #[.int .i64 0, .int .i64 11]) ∧ Below w.heap.size w w' := by
  have bi := below_iter w s
  have si := size_iter w s
  go_enter Try.func49, Try.ntmps49
  go_wp2
  go_loopw [4, 5] (fun a b wr => ∃ (x y : Int) (pos : Nat), wr = w.iter s pos ∧ a = .int .i64 x ∧ b = .int .i64 y) (fun _ _ wr => s.size - wr.iterPos w.heap.size)
  case atStart => exact ⟨0, 1, 0, rfl, rfl, rfl⟩
  case round =>
    obtain ⟨x, y, pos, rfl, rfl, rfl⟩ := hrel
    by_cases hp : pos < s.size
    · have hwd := width_pos s pos hp
      have hr := decode_le s pos
      have hnx : ∀ ty, (Instr.next (.pointer (some ⟨w.heap.size, 0, none⟩)) true ty).run Try.prog (w.iter s pos) = _ := fun ty => run_next_any w s pos ty hp
      generalize (Utf8.decode s pos).1 = r at *
      generalize (Utf8.decode s pos).2 = wd at *
      go_wp2
      all_goals first
        | (go_ret2; exact ⟨rfl, bi _⟩)
        | (go_roundw
           case rel => first | exact ⟨_, _, pos + wd, rfl, rfl, rfl⟩ | exact ⟨_, _, wd, rfl, rfl, rfl⟩
           case measure => simp; omega)
    · have hnx : ∀ ty, (Instr.next (.pointer (some ⟨w.heap.size, 0, none⟩)) true ty).run Try.prog (w.iter s pos) = _ := fun ty => run_next_end w s pos ty hp
      have hne : ∀ n, ((shw (wr n)).toList == s.toList) = false := fun n => ne_test (h _ (wr_range n).1 (wr_range n).2)
      clear h
      go_wp2_with (go_at_call 40; refine (show_any _ _).mono ?_; rintro e w' ⟨rfl, hb⟩)
      go_ret2
      exact ⟨rfl, (bi pos).trans (hb.mono (by rw [si]; omega))⟩
set_option maxRecDepth 100000 in
set_option maxHeartbeats 400000 in
theorem read_pos (v : Int) (w : World) (h0 : 0 ≤ v) (h1 : v ≤ 4611686018427387903) :
    Calls Try.prog 49 #[.string (shw v)] w fun e w' => e = .returned (.tuple #[.int .i64 v, .int .i64 0]) ∧ Below w.heap.size w w' := by
  have hsz : Hid ((shw v).size = (dg 19 v).length) := by have h := shw_size v; rw [shl_pos v h0] at h; exact h
  have hat : Hid (∀ i (h : i < (shw v).size), (((shw v)[i]'h).toNat : Int) = (dg 19 v).getD i 0) := by
    have h := shw_at v (by omega); rw [shl_pos v h0] at h; exact h
  have hdig := dg_digit 19 v h0
  have hval : Hid (val (dg 19 v) = v) := dg_val 19 v h0 (by rw [p10_19]; omega)
  have heq : Hid ((shw (wr v)).toList = (shw v).toList) := by rw [wr_of v ⟨by omega, h1⟩]; exact rfl
  generalize hs : shw v = s at *
  clear hs
  generalize dg 19 v = l at *
  have bi := below_iter w s
  have si := size_iter w s
  go_enter Try.func49, Try.ntmps49
  go_wp2
  go_loopw [4, 5] (fun a b wr => ∃ (x : Int) (pos : Nat), pos ≤ s.size ∧ x = val (l.take pos) ∧ wr = w.iter s pos ∧ a = .int .i64 x ∧ b = .int .i64 1) (fun _ _ wr => s.size - wr.iterPos w.heap.size)
  case atStart => exact ⟨0, 0, by omega, rfl, rfl, rfl, rfl⟩
  case round =>
    obtain ⟨x, pos, hps, hx, rfl, rfl, rfl⟩ := hrel
    have hv := val_take l hdig pos
    have X : Hid (x = val (l.take pos)) := hx
    rw [← hx] at hv
    clear hx
    by_cases hp : pos < s.size
    · have hl : pos < l.length := by have := hsz.out; omega
      have e1 := hat.out pos hp
      have e2 := val_take_succ l pos hl
      have e3 := val_take l hdig (pos + 1)
      have e4 : l.getD pos 0 = l[pos] := by simp [List.getD, hl]
      have e5 := hdig _ (List.getElem_mem hl)
      have ha : (s[pos]'hp).toNat < 128 := by omega
      have hnx : ∀ ty, (Instr.next (.pointer (some ⟨w.heap.size, 0, none⟩)) true ty).run Try.prog (w.iter s pos) = _ := fun ty => run_next_ascii w s pos ty hp ha
      generalize (s[pos]'hp).toNat = r at *
      have hr : 48 ≤ (r : Int) ∧ (r : Int) ≤ 57 := by omega
      have N : Hid (x * 10 + ((r : Int) - 48) = val (l.take (pos + 1))) := by rw [e2, ← X.out, ← e1]; show _ = _; omega
      have hb : x * 10 + ((r : Int) - 48) ≤ 4611686018427387903 := by have := N.out; have := hval.out; omega
      clear e1 e2 e3 e4 e5 ha
      obtain ⟨hr1, hr2⟩ := hr
      obtain ⟨hv1, hv2⟩ := hv
      go_wp2
      all_goals
        try (have hz : pos = 0 := by assumption
             subst hz)
        go_roundw
        case rel => exact ⟨_, _ + 1, by omega, N.out, rfl, rfl, rfl⟩
        case measure => simp; omega
    · have hnx : ∀ ty, (Instr.next (.pointer (some ⟨w.heap.size, 0, none⟩)) true ty).run Try.prog (w.iter s pos) = _ := fun ty => run_next_end w s pos ty hp
      have hxv : x = v := by
        rw [X.out, List.take_of_length_le (by have := hsz.out; omega)]; exact hval.out
      subst hxv
      have hq := eq_test' heq.out
      clear hnx hv
      have hnx : ∀ ty, (Instr.next (.pointer (some ⟨w.heap.size, 0, none⟩)) true ty).run Try.prog (w.iter s pos) = _ := fun ty => run_next_end w s pos ty hp
      go_wp2_with (go_at_call 40; refine (show_any _ _).mono ?_; rintro e w' ⟨rfl, hb⟩)
      go_ret2
      exact ⟨rfl, (bi pos).trans (hb.mono (by rw [si]; omega))⟩
set_option maxRecDepth 100000 in
set_option maxHeartbeats 400000 in
theorem read_neg (v : Int) (w : World) (h0 : -4611686018427387904 ≤ v) (h1 : v < 0) :
    Calls Try.prog 49 #[.string (shw v)] w fun e w' => e = .returned (.tuple #[.int .i64 v, .int .i64 0]) ∧ Below w.heap.size w w' := by
  have hsz : Hid ((shw v).size = (dg 19 (-v)).length + 1) := by have h := shw_size v; rw [shl_neg v h1] at h; exact h
  have hat : Hid (∀ i (h : i < (shw v).size), (((shw v)[i]'h).toNat : Int) = (126 :: dg 19 (-v)).getD i 0) := by
    have h := shw_at v (by omega); rw [shl_neg v h1] at h; exact h
  have hdig := dg_digit 19 (-v) (by omega)
  have hval : Hid (val (dg 19 (-v)) = -v) := dg_val 19 (-v) (by omega) (by rw [p10_19]; omega)
  have heq : Hid ((shw (wr v)).toList = (shw v).toList) := by rw [wr_of v ⟨by omega, by omega⟩]; exact rfl
  generalize hs : shw v = s at *
  clear hs
  generalize dg 19 (-v) = l at *
  have bi := below_iter w s
  have si := size_iter w s
  go_enter Try.func49, Try.ntmps49
  go_wp2
  go_loopw [4, 5] (fun a b wr => ∃ (x y : Int) (pos : Nat), pos ≤ s.size ∧ wr = w.iter s pos ∧ a = .int .i64 x ∧ b = .int .i64 y ∧ ((pos = 0 ∧ x = 0 ∧ y = 1) ∨ ∃ k, pos = k + 1 ∧ x = -val (l.take k) ∧ y = -1)) (fun _ _ wr => s.size - wr.iterPos w.heap.size)
  case atStart => exact ⟨0, 1, 0, by omega, rfl, rfl, rfl, .inl ⟨rfl, rfl, rfl⟩⟩
  case round =>
    obtain ⟨x, y, pos, hps, rfl, rfl, rfl, ⟨rfl, rfl, rfl⟩ | ⟨k, rfl, hx, rfl⟩⟩ := hrel
    · have hp : 0 < s.size := by have := hsz.out; omega
      have e1 := hat.out 0 hp
      simp only [List.getD_cons_zero] at e1
      have ha : (s[0]'hp).toNat < 128 := by omega
      have hnx : ∀ ty, (Instr.next (.pointer (some ⟨w.heap.size, 0, none⟩)) true ty).run Try.prog (w.iter s 0) = _ := fun ty => run_next_ascii w s 0 ty hp ha
      generalize (s[0]'hp).toNat = r at *
      have hr : ((r : Int) == 126) = true := by simpa using e1
      clear e1 ha
      go_wp2
      go_roundw
      case rel => exact ⟨0, -1, 1, by omega, rfl, rfl, rfl, .inr ⟨0, rfl, by simp [val], rfl⟩⟩
      case measure => simp; omega
    · have hv := val_take l hdig k
      have X : Hid (x = -val (l.take k)) := hx
      have hvx : -x = val (l.take k) := by omega
      rw [← hvx] at hv
      clear hx hvx
      by_cases hp : k + 1 < s.size
      · have hl : k < l.length := by have := hsz.out; omega
        have e1 := hat.out (k + 1) hp
        simp only [List.getD_cons_succ] at e1
        have e2 := val_take_succ l k hl
        have e3 := val_take l hdig (k + 1)
        have e4 : l.getD k 0 = l[k] := by simp [List.getD, hl]
        have e5 := hdig _ (List.getElem_mem hl)
        have ha : (s[k + 1]'hp).toNat < 128 := by omega
        have hnx : ∀ ty, (Instr.next (.pointer (some ⟨w.heap.size, 0, none⟩)) true ty).run Try.prog (w.iter s (k + 1)) = _ := fun ty => run_next_ascii w s (k + 1) ty hp ha
        generalize (s[k + 1]'hp).toNat = r at *
        have hr : 48 ≤ (r : Int) ∧ (r : Int) ≤ 57 := by omega
        have N : Hid (x * 10 + -((r : Int) - 48) = -val (l.take (k + 1))) := by have := X.out; show _ = _; omega
        have hb : -4611686018427387904 ≤ x * 10 + -((r : Int) - 48) := by have := N.out; have := hval.out; omega
        clear e1 e2 e3 e4 e5 ha
        obtain ⟨hr1, hr2⟩ := hr
        obtain ⟨hv1, hv2⟩ := hv
        go_wp2
        go_roundw
        case rel => exact ⟨_, _, k + 1 + 1, by omega, rfl, rfl, rfl, .inr ⟨k + 1, rfl, N.out, rfl⟩⟩
        case measure => simp; omega
      · have hxv : x = v := by
          have h2 := X.out
          rw [List.take_of_length_le (by have := hsz.out; omega)] at h2
          have := hval.out; omega
        subst hxv
        have hq := eq_test' heq.out
        clear hv
        have hnx : ∀ ty, (Instr.next (.pointer (some ⟨w.heap.size, 0, none⟩)) true ty).run Try.prog (w.iter s (k + 1)) = _ := fun ty => run_next_end w s (k + 1) ty hp
        go_wp2_with (go_at_call 40; refine (show_any _ _).mono ?_; rintro e w' ⟨rfl, hb⟩)
        go_ret2
        exact ⟨rfl, (bi _).trans (hb.mono (by rw [si]; omega))⟩
theorem read_yes (v : Int) (w : World) (h0 : -4611686018427387904 ≤ v) (h1 : v ≤ 4611686018427387903) :
    Calls Try.prog 49 #[.string (shw v)] w fun e w' => e = .returned (.tuple #[.int .i64 v, .int .i64 0]) ∧ Below w.heap.size w w' := by
  by_cases h : 0 ≤ v
  · exact read_pos v w h h1
  · exact read_neg v w h0 (by omega)
end Go.Proofs.Ytgcojmjllpjefaa
