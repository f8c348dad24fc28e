/- Texts of this seat, one behind the other: LxSlot, LxArith, LxDigits, LxRead. -/
import Derived.Test.YtggjckalmlploaaGreatDoorKn02
import Derived.Test.YtggjckalmlploaaGreatDoorRows
import Derived.Test.YtggjckalmlploaaGreatDoorKn03
import Derived.WalkKit
import Derived.ProofKit
import Derived.OpenShut
import Derived.Outline
import Derived.Below
import Derived.LoopTactic
import Derived.Laws.Rows
import Derived.Laws.BytesArg
import Derived.Laws.RangeAny
/- Function values of the lexer. -/
namespace Go.Proofs.YtggjckalmlploaaGreatDoor.Lx
theorem call45 (vs : Array Value) (w : World) : (callFunc 46 vs).run Tryz.prog w = .ok (.enter 46 vs) w := run_callFunc Tryz.func46 (by kernel_rfl) (by kernel_rfl) vs w
theorem call63 (vs : Array Value) (w : World) : (callFunc 113 vs).run Tryz.prog w = .ok (.enter 113 vs) w := run_callFunc Tryz.func113 (by kernel_rfl) (by kernel_rfl) vs w
theorem call64 (vs : Array Value) (w : World) : (callFunc 111 vs).run Tryz.prog w = .ok (.enter 111 vs) w := run_callFunc Tryz.func111 (by kernel_rfl) (by kernel_rfl) vs w
theorem call65 (vs : Array Value) (w : World) : (callFunc 112 vs).run Tryz.prog w = .ok (.enter 112 vs) w := run_callFunc Tryz.func112 (by kernel_rfl) (by kernel_rfl) vs w
end Go.Proofs.YtggjckalmlploaaGreatDoor.Lx
/- Contracts of the functions of layer 1 that only reckon with numbers, over the translated program: what each one answers, and that it leaves the world alone. -/
namespace Go.Proofs.YtggjckalmlploaaGreatDoor.Lx
open Go.RowKit

theorem ret_int {k : IntKind} {a b : Int} (h : a = b) : Ending.returned (.int k a) = .returned (.int k b) := by rw [h]

theorem wrap_any (n : Int) (w : World) :
    Calls Tryz.prog 75 #[.int .i64 n] w fun e w' => e = .returned (.int .i64 (wr n)) ∧ w = w' := by
  go_enter Tryz.func75, Tryz.ntmps75
  go_wp2
  go_ret
  exact ⟨ret_int (wr_shift n), rfl⟩
end Go.Proofs.YtggjckalmlploaaGreatDoor.Lx
/- The contracts of word.digits and word.Show: the decimal digits of a number from 0 to two to the 62, and the text of any number; nothing that was there is written. -/
namespace Go.Proofs.YtggjckalmlploaaGreatDoor.Lx
open Go.RowKit

/-- Block B of the world holds the bytes cs, and may be written. -/
def Holds (w : World) (B : Nat) (cs : List Int) : Prop := w.heap[B]? = some (.cells (cs.map (Value.int .u8)).toArray 163 (0, 0))
theorem Holds.cell {w : World} {B : Nat} {cs : List Int} (h : Holds w B cs) (j : Nat) (hj : j < cs.length) : w.cell? ⟨B, j, none⟩ = some (.int .u8 (cs.getD j 0)) := by
  unfold Holds at h
  simp [World.cell?, h, List.getD, hj]
theorem Holds.free {w : World} {B : Nat} {cs : List Int} (h : Holds w B cs) (j : Nat) : w.frozen? ⟨B, j, none⟩ = false := frozen_of_row w B j _ _ h
theorem Holds.set {w : World} {B : Nat} {cs : List Int} (h : Holds w B cs) (j : Nat) (n : Int) : Holds (w.setCell ⟨B, j, none⟩ (.int .u8 n)) B (cs.set j n) := by
  unfold Holds
  rw [heap_setCell_same w B j _ _ _ h]
  simp [List.map_set]
/-- What the loop has done: the number that is left and the bytes behind place j make up the whole. -/
def Rel (n : Int) (B : Nat) (w0 : World) (m : Int) (j : Nat) (w : World) : Prop :=
  j ≤ 18 ∧ (0 ≤ m ∧ m ≤ 4611686018427387904) ∧ m < p10 (j + 1) ∧ Below B w0 w ∧ w.heap.size = B + 1 ∧
  ∃ cs : List Int, cs.length = 19 ∧ Holds w B cs ∧ dg 19 n = dg (j + 1) m ++ cs.drop (j + 1)
theorem drop_set (cs : List Int) (j : Nat) (v : Int) (h : j < cs.length) : (cs.set j v).drop j = v :: cs.drop (j + 1) := by
  rw [List.drop_eq_getElem_cons (by simpa using h)]
  simp [List.drop_set]
theorem Rel.step {n m : Int} {B j : Nat} {w0 w : World} (h : Rel n B w0 m j w) (hm : 10 ≤ m) :
    1 ≤ j ∧ Rel n B w0 (m / 10) (j - 1) (w.setCell ⟨B, j, none⟩ (.int .u8 (48 + m % 10))) := by
  obtain ⟨h1, h2, h3, h4, h5, cs, h6, h7, h8⟩ := h
  have hj : 1 ≤ j := by
    rcases Nat.eq_zero_or_pos j with e | e
    · subst e; have := p10_one m h3; omega
    · exact e
  obtain ⟨i, rfl⟩ : ∃ i, j = i + 1 := ⟨j - 1, by omega⟩
  refine ⟨hj, by omega, ⟨by omega, by omega⟩, p10_div _ _ h3, h4.setCell (Nat.le_refl _) _, by simpa using h5, cs.set (i + 1) (48 + m % 10), by simpa using h6, h7.set _ _, ?_⟩
  rw [h8, dg_big _ _ hm]
  simp only [Nat.add_sub_cancel]
  rw [drop_set _ _ _ (by omega)]
  simp
theorem Rel.last {n m : Int} {B j : Nat} {w0 w : World} (h : Rel n B w0 m j w) (hm : m < 10) :
    ∃ cs : List Int, cs.length = 19 ∧ Holds (w.setCell ⟨B, j, none⟩ (.int .u8 (48 + m))) B cs ∧ dg 19 n = cs.drop j ∧ Below B w0 (w.setCell ⟨B, j, none⟩ (.int .u8 (48 + m))) := by
  obtain ⟨h1, h2, h3, h4, h5, cs, h6, h7, h8⟩ := h
  refine ⟨cs.set j (48 + m), by simpa using h6, h7.set _ _, ?_, h4.setCell (Nat.le_refl _) _⟩
  rw [h8, dg_small _ _ hm, drop_set _ _ _ (by omega)]
  simp
theorem Rel.start {n : Int} {w : World} (h0 : 0 ≤ n) (h1 : n ≤ 4611686018427387904) : Rel n w.heap.size w n 18 (w.alloc (.cells ((List.replicate 19 0).map (Value.int .u8)).toArray 163)) :=
  ⟨by omega, ⟨h0, h1⟩, by rw [p10_19]; omega, (Below.refl _ _).alloc (Nat.le_refl _) _, by simp, List.replicate 19 0, by simp, heap_alloc_new w _, by simp⟩

theorem slice_arr (B j : Nat) (hj : j ≤ 18) (W : World) :
    (Instr.sliceAt 163 (.pointer (some ⟨B, 0, none⟩)) (some (.int .i64 j)) none none).run Tryz.prog W = .ok (.slice (some ⟨B, j, none⟩) (19 - j) (19 - j)) W := by
  have hu : Tryz.prog.underlying 163 = some (.array (Tryz.prog.arrayLen 163) (Tryz.prog.elem 163)) := by kernel_rfl
  have hl : Tryz.prog.arrayLen 163 = 19 := by kernel_rfl
  have hs : (sizeOf (Tryz.prog.elem 163)).run Tryz.prog W = .ok 1 W := by kernel_rfl
  rw [run_sliceAt_array_l W 163 _ hu .i64 j (by omega) (by rw [hl]; omega), hs, hl]
  simp only [Result.andThen, slicedAt, Int.toNat_natCast]
  rw [if_neg (by omega)]
  simp [Addr.add]
  omega
theorem ret_str {a b : ByteArray} (h : a = b) : Ending.returned (.string a) = .returned (.string b) := by rw [h]
theorem conv_bytes (B j : Nat) (cs : List Int) (W : World) (h6 : cs.length = 19) (h7 : Holds W B cs) (hj : j ≤ 18) :
    (convert 119 9 (.slice (some ⟨B, j, none⟩) (19 - j) (19 - j))).run Tryz.prog W = .ok (.string (strOfNums (cs.drop j))) W :=
  run_convert_bytes_arg W 119 5 Tryz.underlying119 Tryz.underlying5 B j (19 - j) (19 - j) (cs.drop j) (by simp [h6]) (fun i hi => by
    rw [h7.cell (j + i) (by omega)]
    simp [List.getD]) 9 Tryz.underlying9
theorem digits_any (n : Int) (w : World) (h0 : 0 ≤ n) (h1 : n ≤ 4611686018427387904) :
    Calls Tryz.prog 114 #[.int .i64 n] w fun e w' => e = .returned (.string (strOfNums (dg 19 n))) ∧ Below w.heap.size w w' := by
  have hst := Rel.start (w := w) h0 h1
  go_enter Tryz.func114, Tryz.ntmps114
  go_wp2
  go_loopw [0, 4] (fun a b wr => ∃ (m : Int) (j : Nat), a = .int .i64 m ∧ b = .int .i64 j ∧ Rel n w.heap.size w m j wr) (fun a _ _ => (intOf a).toNat)
  case atStart => exact ⟨n, 18, rfl, rfl, hst⟩
  case round =>
    clear hst
    obtain ⟨m, j, rfl, rfl, hr⟩ := hrel
    obtain ⟨h1', ⟨h2, h3⟩, -, -, -, cs, h6, h7, -⟩ := id hr
    have hc := h7.cell j (by omega)
    have hf := h7.free j
    have HR : Hid (Rel n w.heap.size w m j wr) := hr
    clear hr h7 h0 h1
    by_cases hm : 10 ≤ m
    · go_wp2
      obtain ⟨hj, hs⟩ := HR.out.step hm
      go_roundw
      case rel => exact ⟨m / 10, j - 1, rfl, by congr 1; omega, hs⟩
      case measure => simp [intOf]; omega
    · obtain ⟨cs', g1, g2, g3, g4⟩ := HR.out.last (by omega)
      have hsl := slice_arr w.heap.size j h1'
      have hcv := conv_bytes w.heap.size j cs' _ g1 g2 h1'
      have G3 : Hid _ := g3
      have G4 : Hid _ := g4
      clear g1 g2 g3 g4
      go_wp2
      go_ret
      exact ⟨ret_str (congrArg strOfNums G3.out.symm), G4.out⟩
theorem show_pos (n : Int) (w : World) (h : 0 ≤ wr n) :
    Calls Tryz.prog 82 #[.int .i64 n] w fun e w' => e = .returned (.string (shw (wr n))) ∧ Below w.heap.size w w' := by
  have hr := wr_range n
  have HS : Hid (shl (wr n) = dg 19 (wr n)) := shl_pos _ h
  go_enter Tryz.func82, Tryz.ntmps82
  go_wp2_with (first | (go_at_call 75; refine (wrap_any _ _).mono ?_; rintro e w' ⟨rfl, rfl⟩) | (go_at_call 114; refine (digits_any _ _ h (by omega)).mono ?_; rintro e w' ⟨rfl, hb⟩))
  go_ret
  exact ⟨ret_str (by unfold shw; rw [HS.out]), hb⟩
theorem show_neg (n : Int) (w : World) (h : wr n < 0) :
    Calls Tryz.prog 82 #[.int .i64 n] w fun e w' => e = .returned (.string (shw (wr n))) ∧ Below w.heap.size w w' := by
  have hr := wr_range n
  have HS : Hid (shl (wr n) = 126 :: dg 19 (-wr n)) := shl_neg _ h
  have hz : (strOfNums (dg 19 (-wr n))).size ≤ 19 := by rw [strOfNums_size]; exact dg_length _ _
  go_enter Tryz.func82, Tryz.ntmps82
  go_wp2_with (first | (go_at_call 75; refine (wrap_any _ _).mono ?_; rintro e w' ⟨rfl, rfl⟩) | (go_at_call 114; refine (digits_any _ _ (by omega) (by omega)).mono ?_; rintro e w' ⟨rfl, hb⟩))
  go_ret
  exact ⟨ret_str (by unfold shw; rw [HS.out, str_tilde]), hb⟩
theorem show_any (n : Int) (w : World) :
    Calls Tryz.prog 82 #[.int .i64 n] w fun e w' => e = .returned (.string (shw (wr n))) ∧ Below w.heap.size w w' := by
  by_cases h : 0 ≤ wr n
  · exact show_pos n w h
  · exact show_neg n w (by omega)
end Go.Proofs.YtggjckalmlploaaGreatDoor.Lx
/- The contract of word.Read: a text that is the text of a number of the language is read as that number; any other text is refused; nothing that was there is written. -/
namespace Go.Proofs.YtggjckalmlploaaGreatDoor.Lx
open Go.RowKit

theorem width_pos (s : ByteArray) (pos : Nat) (h : pos < s.size) : 1 ≤ (Utf8.decode s pos).2 := by
  by_cases ha : (s[pos]'h).toNat < 128
  · rw [decode_ascii s pos h ha]
    exact Nat.le_refl _
  · exact (decode_high s pos h (by omega)).2
theorem below_iter (w : World) (s : ByteArray) (pos : Nat) : Below w.heap.size w (w.iter s pos) := (Below.refl _ _).alloc (Nat.le_refl _) _
theorem size_iter (w : World) (s : ByteArray) (pos : Nat) : (w.iter s pos).heap.size = w.heap.size + 1 := by simp [World.iter]
def NoText (s : ByteArray) : Prop := ∀ v, -4611686018427387904 ≤ v → v ≤ 4611686018427387903 → ¬ shw v = s

theorem ne_test {a b : ByteArray} (h : ¬ a = b) : (a.toList == b.toList) = false := by
  rw [ByteArray.toList_eq, ByteArray.toList_eq]
  simp only [beq_eq_false_iff_ne]
  exact fun e => h (Go.WideShapes.bytes_inj e)
theorem eq_test' {a b : List UInt8} (h : a = b) : (a == b) = true := by rw [h]; simp

set_option maxRecDepth 100000 in
set_option maxHeartbeats 400000 in
theorem read_no (s : ByteArray) (w : World) (h : NoText s) :
    Calls Tryz.prog 51 #[.string s] w fun e w' => e = .returned (.tuple #[.int .i64 0, .int .i64 11]) ∧ Below w.heap.size w w' := by
  have bi := below_iter w s
  have si := size_iter w s
  go_enter Tryz.func51, Tryz.ntmps51
  go_wp2
  go_loopw [4, 5] (fun a b wr => ∃ (x y : Int) (pos : Nat), wr = w.iter s pos ∧ a = .int .i64 x ∧ b = .int .i64 y) (fun _ _ wr => s.size - wr.iterPos w.heap.size)
  case atStart => exact ⟨0, 1, 0, rfl, rfl, rfl⟩
  case round =>
    obtain ⟨x, y, pos, rfl, rfl, rfl⟩ := hrel
    by_cases hp : pos < s.size
    · have hwd := width_pos s pos hp
      have hr := decode_le s pos
      have hnx : ∀ ty, (Instr.next (.pointer (some ⟨w.heap.size, 0, none⟩)) true ty).run Tryz.prog (w.iter s pos) = _ := fun ty => run_next_any w s pos ty hp
      generalize (Utf8.decode s pos).1 = r at *
      generalize (Utf8.decode s pos).2 = wd at *
      go_wp2
      all_goals first
        | (go_ret2; exact ⟨rfl, bi _⟩)
        | (go_roundw
           case rel => first | exact ⟨_, _, pos + wd, rfl, rfl, rfl⟩ | exact ⟨_, _, wd, rfl, rfl, rfl⟩
           case measure => simp; omega)
    · have hnx : ∀ ty, (Instr.next (.pointer (some ⟨w.heap.size, 0, none⟩)) true ty).run Tryz.prog (w.iter s pos) = _ := fun ty => run_next_end w s pos ty hp
      have hne : ∀ n, ((shw (wr n)).toList == s.toList) = false := fun n => ne_test (h _ (wr_range n).1 (wr_range n).2)
      clear h
      go_wp2_with (go_at_call 82; refine (show_any _ _).mono ?_; rintro e w' ⟨rfl, hb⟩)
      go_ret2
      exact ⟨rfl, (bi pos).trans (hb.mono (by rw [si]; omega))⟩
set_option maxRecDepth 100000 in
set_option maxHeartbeats 400000 in
theorem read_pos (v : Int) (w : World) (h0 : 0 ≤ v) (h1 : v ≤ 4611686018427387903) :
    Calls Tryz.prog 51 #[.string (shw v)] w fun e w' => e = .returned (.tuple #[.int .i64 v, .int .i64 0]) ∧ Below w.heap.size w w' := by
  have hsz : Hid ((shw v).size = (dg 19 v).length) := by have h := shw_size v; rw [shl_pos v h0] at h; exact h
  have hat : Hid (∀ i (h : i < (shw v).size), (((shw v)[i]'h).toNat : Int) = (dg 19 v).getD i 0) := by
    have h := shw_at v (by omega); rw [shl_pos v h0] at h; exact h
  have hdig := dg_digit 19 v h0
  have hval : Hid (val (dg 19 v) = v) := dg_val 19 v h0 (by rw [p10_19]; omega)
  have heq : Hid ((shw (wr v)).toList = (shw v).toList) := by rw [wr_of v ⟨by omega, h1⟩]; exact rfl
  generalize hs : shw v = s at *
  clear hs
  generalize dg 19 v = l at *
  have bi := below_iter w s
  have si := size_iter w s
  go_enter Tryz.func51, Tryz.ntmps51
  go_wp2
  go_loopw [4, 5] (fun a b wr => ∃ (x : Int) (pos : Nat), pos ≤ s.size ∧ x = val (l.take pos) ∧ wr = w.iter s pos ∧ a = .int .i64 x ∧ b = .int .i64 1) (fun _ _ wr => s.size - wr.iterPos w.heap.size)
  case atStart => exact ⟨0, 0, by omega, rfl, rfl, rfl, rfl⟩
  case round =>
    obtain ⟨x, pos, hps, hx, rfl, rfl, rfl⟩ := hrel
    have hv := val_take l hdig pos
    have X : Hid (x = val (l.take pos)) := hx
    rw [← hx] at hv
    clear hx
    by_cases hp : pos < s.size
    · have hl : pos < l.length := by have := hsz.out; omega
      have e1 := hat.out pos hp
      have e2 := val_take_succ l pos hl
      have e3 := val_take l hdig (pos + 1)
      have e4 : l.getD pos 0 = l[pos] := by simp [List.getD, hl]
      have e5 := hdig _ (List.getElem_mem hl)
      have ha : (s[pos]'hp).toNat < 128 := by omega
      have hnx : ∀ ty, (Instr.next (.pointer (some ⟨w.heap.size, 0, none⟩)) true ty).run Tryz.prog (w.iter s pos) = _ := fun ty => run_next_ascii w s pos ty hp ha
      generalize (s[pos]'hp).toNat = r at *
      have hr : 48 ≤ (r : Int) ∧ (r : Int) ≤ 57 := by omega
      have N : Hid (x * 10 + ((r : Int) - 48) = val (l.take (pos + 1))) := by rw [e2, ← X.out, ← e1]; show _ = _; omega
      have hb : x * 10 + ((r : Int) - 48) ≤ 4611686018427387903 := by have := N.out; have := hval.out; omega
      clear e1 e2 e3 e4 e5 ha
      obtain ⟨hr1, hr2⟩ := hr
      obtain ⟨hv1, hv2⟩ := hv
      go_wp2
      all_goals
        try (have hz : pos = 0 := by assumption
             subst hz)
        go_roundw
        case rel => exact ⟨_, _ + 1, by omega, N.out, rfl, rfl, rfl⟩
        case measure => simp; omega
    · have hnx : ∀ ty, (Instr.next (.pointer (some ⟨w.heap.size, 0, none⟩)) true ty).run Tryz.prog (w.iter s pos) = _ := fun ty => run_next_end w s pos ty hp
      have hxv : x = v := by
        rw [X.out, List.take_of_length_le (by have := hsz.out; omega)]; exact hval.out
      subst hxv
      have hq := eq_test' heq.out
      clear hnx hv
      have hnx : ∀ ty, (Instr.next (.pointer (some ⟨w.heap.size, 0, none⟩)) true ty).run Tryz.prog (w.iter s pos) = _ := fun ty => run_next_end w s pos ty hp
      go_wp2_with (go_at_call 82; refine (show_any _ _).mono ?_; rintro e w' ⟨rfl, hb⟩)
      go_ret2
      exact ⟨rfl, (bi pos).trans (hb.mono (by rw [si]; omega))⟩
set_option maxRecDepth 100000 in
set_option maxHeartbeats 400000 in
theorem read_neg (v : Int) (w : World) (h0 : -4611686018427387904 ≤ v) (h1 : v < 0) :
    Calls Tryz.prog 51 #[.string (shw v)] w fun e w' => e = .returned (.tuple #[.int .i64 v, .int .i64 0]) ∧ Below w.heap.size w w' := by
  have hsz : Hid ((shw v).size = (dg 19 (-v)).length + 1) := by have h := shw_size v; rw [shl_neg v h1] at h; exact h
  have hat : Hid (∀ i (h : i < (shw v).size), (((shw v)[i]'h).toNat : Int) = (126 :: dg 19 (-v)).getD i 0) := by
    have h := shw_at v (by omega); rw [shl_neg v h1] at h; exact h
  have hdig := dg_digit 19 (-v) (by omega)
  have hval : Hid (val (dg 19 (-v)) = -v) := dg_val 19 (-v) (by omega) (by rw [p10_19]; omega)
  have heq : Hid ((shw (wr v)).toList = (shw v).toList) := by rw [wr_of v ⟨by omega, by omega⟩]; exact rfl
  generalize hs : shw v = s at *
  clear hs
  generalize dg 19 (-v) = l at *
  have bi := below_iter w s
  have si := size_iter w s
  go_enter Tryz.func51, Tryz.ntmps51
  go_wp2
  go_loopw [4, 5] (fun a b wr => ∃ (x y : Int) (pos : Nat), pos ≤ s.size ∧ wr = w.iter s pos ∧ a = .int .i64 x ∧ b = .int .i64 y ∧ ((pos = 0 ∧ x = 0 ∧ y = 1) ∨ ∃ k, pos = k + 1 ∧ x = -val (l.take k) ∧ y = -1)) (fun _ _ wr => s.size - wr.iterPos w.heap.size)
  case atStart => exact ⟨0, 1, 0, by omega, rfl, rfl, rfl, .inl ⟨rfl, rfl, rfl⟩⟩
  case round =>
    obtain ⟨x, y, pos, hps, rfl, rfl, rfl, ⟨rfl, rfl, rfl⟩ | ⟨k, rfl, hx, rfl⟩⟩ := hrel
    · have hp : 0 < s.size := by have := hsz.out; omega
      have e1 := hat.out 0 hp
      simp only [List.getD_cons_zero] at e1
      have ha : (s[0]'hp).toNat < 128 := by omega
      have hnx : ∀ ty, (Instr.next (.pointer (some ⟨w.heap.size, 0, none⟩)) true ty).run Tryz.prog (w.iter s 0) = _ := fun ty => run_next_ascii w s 0 ty hp ha
      generalize (s[0]'hp).toNat = r at *
      have hr : ((r : Int) == 126) = true := by simpa using e1
      clear e1 ha
      go_wp2
      go_roundw
      case rel => exact ⟨0, -1, 1, by omega, rfl, rfl, rfl, .inr ⟨0, rfl, by simp [val], rfl⟩⟩
      case measure => simp; omega
    · have hv := val_take l hdig k
      have X : Hid (x = -val (l.take k)) := hx
      have hvx : -x = val (l.take k) := by omega
      rw [← hvx] at hv
      clear hx hvx
      by_cases hp : k + 1 < s.size
      · have hl : k < l.length := by have := hsz.out; omega
        have e1 := hat.out (k + 1) hp
        simp only [List.getD_cons_succ] at e1
        have e2 := val_take_succ l k hl
        have e3 := val_take l hdig (k + 1)
        have e4 : l.getD k 0 = l[k] := by simp [List.getD, hl]
        have e5 := hdig _ (List.getElem_mem hl)
        have ha : (s[k + 1]'hp).toNat < 128 := by omega
        have hnx : ∀ ty, (Instr.next (.pointer (some ⟨w.heap.size, 0, none⟩)) true ty).run Tryz.prog (w.iter s (k + 1)) = _ := fun ty => run_next_ascii w s (k + 1) ty hp ha
        generalize (s[k + 1]'hp).toNat = r at *
        have hr : 48 ≤ (r : Int) ∧ (r : Int) ≤ 57 := by omega
        have N : Hid (x * 10 + -((r : Int) - 48) = -val (l.take (k + 1))) := by have := X.out; show _ = _; omega
        have hb : -4611686018427387904 ≤ x * 10 + -((r : Int) - 48) := by have := N.out; have := hval.out; omega
        clear e1 e2 e3 e4 e5 ha
        obtain ⟨hr1, hr2⟩ := hr
        obtain ⟨hv1, hv2⟩ := hv
        go_wp2
        go_roundw
        case rel => exact ⟨_, _, k + 1 + 1, by omega, rfl, rfl, rfl, .inr ⟨k + 1, rfl, N.out, rfl⟩⟩
        case measure => simp; omega
      · have hxv : x = v := by
          have h2 := X.out
          rw [List.take_of_length_le (by have := hsz.out; omega)] at h2
          have := hval.out; omega
        subst hxv
        have hq := eq_test' heq.out
        clear hv
        have hnx : ∀ ty, (Instr.next (.pointer (some ⟨w.heap.size, 0, none⟩)) true ty).run Tryz.prog (w.iter s (k + 1)) = _ := fun ty => run_next_end w s (k + 1) ty hp
        go_wp2_with (go_at_call 82; refine (show_any _ _).mono ?_; rintro e w' ⟨rfl, hb⟩)
        go_ret2
        exact ⟨rfl, (bi _).trans (hb.mono (by rw [si]; omega))⟩
theorem read_yes (v : Int) (w : World) (h0 : -4611686018427387904 ≤ v) (h1 : v ≤ 4611686018427387903) :
    Calls Tryz.prog 51 #[.string (shw v)] w fun e w' => e = .returned (.tuple #[.int .i64 v, .int .i64 0]) ∧ Below w.heap.size w w' := by
  by_cases h : 0 ≤ v
  · exact read_pos v w h h1
  · exact read_neg v w h0 (by omega)
end Go.Proofs.YtggjckalmlploaaGreatDoor.Lx
