/- The contract of the document's own Read (package triglyphref01) at a text that is the text of a number of the language: it is read as that number; nothing that was there is written. -/
import Derived.Test.YtgcojmjllpjefaaRefRead
namespace Go.Proofs.Ytgcojmjllpjefaa
open Go.RowKit

theorem ne_nil_size {s : ByteArray} (h : 0 < s.size) : ¬ s.toList = [] := by
  rw [ByteArray.toList_eq]
  intro e
  have h1 : s.data.toList.length = 0 := by rw [e]; rfl
  have h2 : s.size = s.data.toList.length := rfl
  omega
set_option maxRecDepth 100000 in
set_option maxHeartbeats 400000 in
theorem rread_pos (v : Int) (w : World) (h0 : 0 ≤ v) (h1 : v ≤ 4611686018427387903) :
    Calls Try.prog 53 #[.string (shw v)] w fun e w' => e = .returned (.tuple #[.int .i64 v, .bool true]) ∧ Below w.heap.size w w' := by
  have hsz : Hid ((shw v).size = (dg 19 v).length) := by have h := shw_size v; rw [shl_pos v h0] at h; exact h
  have hat : Hid (∀ i (h : i < (shw v).size), (((shw v)[i]'h).toNat : Int) = (dg 19 v).getD i 0) := by
    have h := shw_at v (by omega); rw [shl_pos v h0] at h; exact h
  have hdig := dg_digit 19 v h0
  have hln := dg_length 19 v
  have hl0 : 1 ≤ (dg 19 v).length := dg_ne 18 v
  have hval : Hid (val (dg 19 v) = v) := dg_val 19 v h0 (by rw [p10_19]; omega)
  have hwv : Hid (wr v = v) := wr_of v ⟨by omega, h1⟩
  have heq : Hid ((shw (wr (wr v))).toList = (shw v).toList) := by rw [wr_wr, wr_of v ⟨by omega, h1⟩]; exact rfl
  generalize hs : shw v = s at *
  clear hs
  generalize dg 19 v = l at *
  have z1 : 0 < s.size := by have := hsz.out; omega
  have z2 : s.size ≤ 19 := by have := hsz.out; omega
  have e0 : ((s[0].toNat : Int) == 126) = false := by
    have a1 := hat.out 0 z1
    have a2 : 0 < l.length := by omega
    have a3 := hdig _ (List.getElem_mem a2)
    have a4 : l.getD 0 0 = l[0] := by simp [List.getD, a2]
    simp; omega
  have e2 := ne_nil_size z1
  have e3 : s.toList.isEmpty = false := by simpa using e2
  clear hln hl0
  go_enter Try.func53, Try.ntmps53
  go_wp2_with fail
  go_loop [5, 6] (fun m i => ∃ (x : Int) (k : Nat), x = val (l.take k) ∧ k ≤ s.size ∧ i = .int .i64 k ∧ m = .int .u64 x) (fun _ i => s.size - (intOf i).toNat)
  case atStart => exact ⟨0, 0, rfl, by omega, rfl, rfl⟩
  case round =>
    obtain ⟨x, k, hx, hk, rfl, rfl⟩ := hrel
    have hv := val_take l hdig k
    have X : Hid (x = val (l.take k)) := hx
    rw [← hx] at hv
    clear hx
    obtain ⟨hv1, hv2⟩ := hv
    by_cases hlt : k < s.size
    · have hl : k < l.length := by have := hsz.out; omega
      have a1 := hat.out k hlt
      have a2 := val_take_succ l k hl
      have a3 := val_take l hdig (k + 1)
      have a4 : l.getD k 0 = l[k] := by simp [List.getD, hl]
      have a5 := hdig _ (List.getElem_mem hl)
      have hr1 : 48 ≤ ((s[k]'hlt).toNat : Int) := by omega
      have hr2 : ((s[k]'hlt).toNat : Int) ≤ 57 := by omega
      have N : Hid (10 * x + (((s[k]'hlt).toNat : Int) - 48) = val (l.take (k + 1))) := by rw [a2, ← X.out, ← a1]; show _ = _; omega
      have hb : 10 * x + (((s[k]'hlt).toNat : Int) - 48) ≤ 4611686018427387903 := by have := N.out; have := hval.out; omega
      clear a1 a2 a3 a4 a5
      go_wp2_with fail
      go_round
      case rel => exact ⟨_, k + 1, N.out, by omega, by go_num, rfl⟩
      case measure => simp [intOf]; omega
    · have hxv : x = v := by
        rw [X.out, List.take_of_length_le (by have := hsz.out; omega)]; exact hval.out
      have HX : Hid (wr x = v) := by rw [hxv]; exact hwv.out
      have hq : ((shw (wr (wr x))).toList == s.toList) = true := eq_test' (by rw [hxv]; exact heq.out)
      have hx1 : x ≤ 4611686018427387903 := by omega
      clear hxv hv2
      go_wp2_with (first
        | (go_at_call 58; refine (back_any _ _ (by first | omega | exact u64_nonneg _)).mono ?_; rintro e w' ⟨rfl, rfl⟩)
        | (go_at_call 41; refine (rshow_any _ _).mono ?_; rintro e w' ⟨rfl, hb⟩))
      go_ret2
      exact ⟨tup_int HX.out, hb⟩
theorem extract_at (s : ByteArray) (k : Nat) (h : k < (s.extract 1 s.size).size) (h' : k + 1 < s.size) : ((s.extract 1 s.size)[k]'h) = s[k + 1]'h' := by
  rw [ByteArray.getElem_extract]
  congr 1
  omega
theorem size_extract (s : ByteArray) : (s.extract 1 s.size).size = s.size - 1 := by simp
set_option maxRecDepth 100000 in
set_option maxHeartbeats 400000 in
theorem rread_neg (v : Int) (w : World) (h0 : -4611686018427387904 ≤ v) (h1 : v < 0) :
    Calls Try.prog 53 #[.string (shw v)] w fun e w' => e = .returned (.tuple #[.int .i64 v, .bool true]) ∧ Below w.heap.size w w' := by
  have hsz : Hid ((shw v).size = (dg 19 (-v)).length + 1) := by have h := shw_size v; rw [shl_neg v h1] at h; exact h
  have hat : Hid (∀ i (h : i < (shw v).size), (((shw v)[i]'h).toNat : Int) = (126 :: dg 19 (-v)).getD i 0) := by
    have h := shw_at v (by omega); rw [shl_neg v h1] at h; exact h
  have hdig := dg_digit 19 (-v) (by omega)
  have hln := dg_length 19 (-v)
  have hl0 : 1 ≤ (dg 19 (-v)).length := dg_ne 18 (-v)
  have hval : Hid (val (dg 19 (-v)) = -v) := dg_val 19 (-v) (by omega) (by rw [p10_19]; omega)
  have hwv : Hid (wr v = v) := wr_of v ⟨by omega, by omega⟩
  have heq : Hid ((shw (wr (wr v))).toList = (shw v).toList) := by rw [wr_wr, wr_of v ⟨by omega, by omega⟩]; exact rfl
  generalize hs : shw v = s at *
  clear hs
  generalize dg 19 (-v) = l at *
  have z1 : 1 < s.size := by have := hsz.out; omega
  have z2 : s.size - 1 ≤ 19 := by have := hsz.out; omega
  have e0 : ((s[0].toNat : Int) == 126) = true := by
    have a1 := hat.out 0 (by omega)
    simpa using a1
  have e2 : ¬ (s.extract 1 s.size).toList = [] := ne_nil_size (by rw [size_extract]; omega)
  have e3 : (s.extract 1 s.size).toList.isEmpty = false := by simpa using e2
  clear hln hl0
  go_enter Try.func53, Try.ntmps53
  go_wp2_with fail
  go_loop [5, 6] (fun m i => ∃ (x : Int) (k : Nat), x = val (l.take k) ∧ k ≤ s.size - 1 ∧ i = .int .i64 k ∧ m = .int .u64 x) (fun _ i => s.size - 1 - (intOf i).toNat)
  case atStart => exact ⟨0, 0, rfl, by omega, rfl, rfl⟩
  case round =>
    obtain ⟨x, k, hx, hk, rfl, rfl⟩ := hrel
    have hv := val_take l hdig k
    have X : Hid (x = val (l.take k)) := hx
    rw [← hx] at hv
    clear hx
    obtain ⟨hv1, hv2⟩ := hv
    by_cases hlt : k < s.size - 1
    · have hl : k < l.length := by have := hsz.out; omega
      have hke : k < (s.extract 1 s.size).size := by rw [size_extract]; exact hlt
      have a1 := hat.out (k + 1) (by omega)
      rw [← extract_at s k hke] at a1
      simp only [List.getD_cons_succ] at a1
      have a2 := val_take_succ l k hl
      have a3 := val_take l hdig (k + 1)
      have a4 : l.getD k 0 = l[k] := by simp [List.getD, hl]
      have a5 := hdig _ (List.getElem_mem hl)
      have hr1 : 48 ≤ (((s.extract 1 s.size)[k]'hke).toNat : Int) := by omega
      have hr2 : (((s.extract 1 s.size)[k]'hke).toNat : Int) ≤ 57 := by omega
      have N : Hid (10 * x + ((((s.extract 1 s.size)[k]'hke).toNat : Int) - 48) = val (l.take (k + 1))) := by rw [a2, ← X.out, ← a1]; show _ = _; omega
      have hb : 10 * x + ((((s.extract 1 s.size)[k]'hke).toNat : Int) - 48) ≤ 4611686018427387904 := by have := N.out; have := hval.out; omega
      clear a1 a2 a3 a4 a5
      go_wp2_with fail
      go_round
      case rel => exact ⟨_, k + 1, N.out, by omega, by go_num, rfl⟩
      case measure => simp [intOf]; omega
    · have hxv : x = -v := by
        rw [X.out, List.take_of_length_le (by have := hsz.out; omega)]; exact hval.out
      have hx1 : x ≤ 4611686018427387904 := by omega
      have hx2 : 1 ≤ x := by omega
      have HX : Hid (wr (IntKind.u64.wrap (-x)) = v) := by rw [u64w_eq, wr_u64w, hxv, Int.neg_neg]; exact hwv.out
      have hq : ((shw (wr (wr (IntKind.u64.wrap (-x))))).toList == s.toList) = true := eq_test' (by rw [HX.out]; have h2 := heq.out; rw [hwv.out] at h2; exact h2)
      clear hxv hv2
      go_wp2_with (first
        | (go_at_call 58; refine (back_any _ _ (by first | omega | exact u64_nonneg _)).mono ?_; rintro e w' ⟨rfl, rfl⟩)
        | (go_at_call 41; refine (rshow_any _ _).mono ?_; rintro e w' ⟨rfl, hb⟩))
      go_ret2
      exact ⟨tup_int HX.out, hb⟩
theorem rread_yes (v : Int) (w : World) (h0 : -4611686018427387904 ≤ v) (h1 : v ≤ 4611686018427387903) :
    Calls Try.prog 53 #[.string (shw v)] w fun e w' => e = .returned (.tuple #[.int .i64 v, .bool true]) ∧ Below w.heap.size w w' := by
  by_cases h : 0 ≤ v
  · exact rread_pos v w h h1
  · exact rread_neg v w h0 (by omega)
end Go.Proofs.Ytgcojmjllpjefaa
