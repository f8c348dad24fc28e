/- The contracts of word.digits and word.Show: the decimal digits of a number from 0 to two to the 62, and the text of any number; nothing that was there is written. -/
import Derived.Test.YtgcojmjllpjefaaArith
import Derived.Test.YtgcojmjllpjefaaDigs
import Derived.Outline
import Derived.Below
import Derived.LoopTactic
import Derived.Laws.Rows
import Derived.Laws.BytesArg
namespace Go.Proofs.Ytgcojmjllpjefaa
open Go.RowKit

/-- Block B of the world holds the bytes cs, and may be written. -/
def Holds (w : World) (B : Nat) (cs : List Int) : Prop := w.heap[B]? = some (.cells (cs.map (Value.int .u8)).toArray 80 (0, 0))
theorem Holds.cell {w : World} {B : Nat} {cs : List Int} (h : Holds w B cs) (j : Nat) (hj : j < cs.length) : w.cell? ⟨B, j, none⟩ = some (.int .u8 (cs.getD j 0)) := by
  unfold Holds at h
  simp [World.cell?, h, List.getD, hj]
theorem Holds.free {w : World} {B : Nat} {cs : List Int} (h : Holds w B cs) (j : Nat) : w.frozen? ⟨B, j, none⟩ = false := frozen_of_row w B j _ _ h
theorem Holds.set {w : World} {B : Nat} {cs : List Int} (h : Holds w B cs) (j : Nat) (n : Int) : Holds (w.setCell ⟨B, j, none⟩ (.int .u8 n)) B (cs.set j n) := by
  unfold Holds
  rw [heap_setCell_same w B j _ _ _ h]
  simp [List.map_set]
/-- What the loop has done: the number that is left and the bytes behind place j make up the whole. -/
def Rel (n : Int) (B : Nat) (w0 : World) (m : Int) (j : Nat) (w : World) : Prop :=
  j ≤ 18 ∧ (0 ≤ m ∧ m ≤ 4611686018427387904) ∧ m < p10 (j + 1) ∧ Below B w0 w ∧ w.heap.size = B + 1 ∧
  ∃ cs : List Int, cs.length = 19 ∧ Holds w B cs ∧ dg 19 n = dg (j + 1) m ++ cs.drop (j + 1)
theorem drop_set (cs : List Int) (j : Nat) (v : Int) (h : j < cs.length) : (cs.set j v).drop j = v :: cs.drop (j + 1) := by
  rw [List.drop_eq_getElem_cons (by simpa using h)]
  simp [List.drop_set]
theorem Rel.step {n m : Int} {B j : Nat} {w0 w : World} (h : Rel n B w0 m j w) (hm : 10 ≤ m) :
    1 ≤ j ∧ Rel n B w0 (m / 10) (j - 1) (w.setCell ⟨B, j, none⟩ (.int .u8 (48 + m % 10))) := by
  obtain ⟨h1, h2, h3, h4, h5, cs, h6, h7, h8⟩ := h
  have hj : 1 ≤ j := by
    rcases Nat.eq_zero_or_pos j with e | e
    · subst e; have := p10_one m h3; omega
    · exact e
  obtain ⟨i, rfl⟩ : ∃ i, j = i + 1 := ⟨j - 1, by omega⟩
  refine ⟨hj, by omega, ⟨by omega, by omega⟩, p10_div _ _ h3, h4.setCell (Nat.le_refl _) _, by simpa using h5, cs.set (i + 1) (48 + m % 10), by simpa using h6, h7.set _ _, ?_⟩
  rw [h8, dg_big _ _ hm]
  simp only [Nat.add_sub_cancel]
  rw [drop_set _ _ _ (by omega)]
  simp
theorem Rel.last {n m : Int} {B j : Nat} {w0 w : World} (h : Rel n B w0 m j w) (hm : m < 10) :
    ∃ cs : List Int, cs.length = 19 ∧ Holds (w.setCell ⟨B, j, none⟩ (.int .u8 (48 + m))) B cs ∧ dg 19 n = cs.drop j ∧ Below B w0 (w.setCell ⟨B, j, none⟩ (.int .u8 (48 + m))) := by
  obtain ⟨h1, h2, h3, h4, h5, cs, h6, h7, h8⟩ := h
  refine ⟨cs.set j (48 + m), by simpa using h6, h7.set _ _, ?_, h4.setCell (Nat.le_refl _) _⟩
  rw [h8, dg_small _ _ hm, drop_set _ _ _ (by omega)]
  simp
theorem Rel.start {n : Int} {w : World} (h0 : 0 ≤ n) (h1 : n ≤ 4611686018427387904) : Rel n w.heap.size w n 18 (w.alloc (.cells ((List.replicate 19 0).map (Value.int .u8)).toArray 80)) :=
  ⟨by omega, ⟨h0, h1⟩, by rw [p10_19]; omega, (Below.refl _ _).alloc (Nat.le_refl _) _, by simp, List.replicate 19 0, by simp, heap_alloc_new w _, by simp⟩

theorem slice_arr (B j : Nat) (hj : j ≤ 18) (W : World) :
    (Instr.sliceAt 80 (.pointer (some ⟨B, 0, none⟩)) (some (.int .i64 j)) none none).run Try.prog W = .ok (.slice (some ⟨B, j, none⟩) (19 - j) (19 - j)) W := by
  have hu : Try.prog.underlying 80 = some (.array (Try.prog.arrayLen 80) (Try.prog.elem 80)) := by kernel_rfl
  have hl : Try.prog.arrayLen 80 = 19 := by kernel_rfl
  have hs : (sizeOf (Try.prog.elem 80)).run Try.prog W = .ok 1 W := by kernel_rfl
  rw [run_sliceAt_array_l W 80 _ hu .i64 j (by omega) (by rw [hl]; omega), hs, hl]
  simp only [Result.andThen, slicedAt, Int.toNat_natCast]
  rw [if_neg (by omega)]
  simp [Addr.add]
  omega
theorem ret_str {a b : ByteArray} (h : a = b) : Ending.returned (.string a) = .returned (.string b) := by rw [h]
theorem conv_bytes (B j : Nat) (cs : List Int) (W : World) (h6 : cs.length = 19) (h7 : Holds W B cs) (hj : j ≤ 18) :
    (convert 43 9 (.slice (some ⟨B, j, none⟩) (19 - j) (19 - j))).run Try.prog W = .ok (.string (strOfNums (cs.drop j))) W :=
  run_convert_bytes_arg W 43 5 Try.underlying43 Try.underlying5 B j (19 - j) (19 - j) (cs.drop j) (by simp [h6]) (fun i hi => by
    rw [h7.cell (j + i) (by omega)]
    simp [List.getD]) 9 Try.underlying9
theorem digits_any (n : Int) (w : World) (h0 : 0 ≤ n) (h1 : n ≤ 4611686018427387904) :
    Calls Try.prog 59 #[.int .i64 n] w fun e w' => e = .returned (.string (strOfNums (dg 19 n))) ∧ Below w.heap.size w w' := by
  have hst := Rel.start (w := w) h0 h1
  go_enter Try.func59, Try.ntmps59
  go_wp2
  go_loopw [0, 4] (fun a b wr => ∃ (m : Int) (j : Nat), a = .int .i64 m ∧ b = .int .i64 j ∧ Rel n w.heap.size w m j wr) (fun a _ _ => (intOf a).toNat)
  case atStart => exact ⟨n, 18, rfl, rfl, hst⟩
  case round =>
    clear hst
    obtain ⟨m, j, rfl, rfl, hr⟩ := hrel
    obtain ⟨h1', ⟨h2, h3⟩, -, -, -, cs, h6, h7, -⟩ := id hr
    have hc := h7.cell j (by omega)
    have hf := h7.free j
    have HR : Hid (Rel n w.heap.size w m j wr) := hr
    clear hr h7 h0 h1
    by_cases hm : 10 ≤ m
    · go_wp2
      obtain ⟨hj, hs⟩ := HR.out.step hm
      go_roundw
      case rel => exact ⟨m / 10, j - 1, rfl, by congr 1; omega, hs⟩
      case measure => simp [intOf]; omega
    · obtain ⟨cs', g1, g2, g3, g4⟩ := HR.out.last (by omega)
      have hsl := slice_arr w.heap.size j h1'
      have hcv := conv_bytes w.heap.size j cs' _ g1 g2 h1'
      have G3 : Hid _ := g3
      have G4 : Hid _ := g4
      clear g1 g2 g3 g4
      go_wp2
      go_ret
      exact ⟨ret_str (congrArg strOfNums G3.out.symm), G4.out⟩
theorem show_pos (n : Int) (w : World) (h : 0 ≤ wr n) :
    Calls Try.prog 40 #[.int .i64 n] w fun e w' => e = .returned (.string (shw (wr n))) ∧ Below w.heap.size w w' := by
  have hr := wr_range n
  have HS : Hid (shl (wr n) = dg 19 (wr n)) := shl_pos _ h
  go_enter Try.func40, Try.ntmps40
  go_wp2_with (first | (go_at_call 35; refine (wrap_any _ _).mono ?_; rintro e w' ⟨rfl, rfl⟩) | (go_at_call 59; refine (digits_any _ _ h (by omega)).mono ?_; rintro e w' ⟨rfl, hb⟩))
  go_ret
  exact ⟨ret_str (by unfold shw; rw [HS.out]), hb⟩
theorem show_neg (n : Int) (w : World) (h : wr n < 0) :
    Calls Try.prog 40 #[.int .i64 n] w fun e w' => e = .returned (.string (shw (wr n))) ∧ Below w.heap.size w w' := by
  have hr := wr_range n
  have HS : Hid (shl (wr n) = 126 :: dg 19 (-wr n)) := shl_neg _ h
  have hz : (strOfNums (dg 19 (-wr n))).size ≤ 19 := by rw [strOfNums_size]; exact dg_length _ _
  go_enter Try.func40, Try.ntmps40
  go_wp2_with (first | (go_at_call 35; refine (wrap_any _ _).mono ?_; rintro e w' ⟨rfl, rfl⟩) | (go_at_call 59; refine (digits_any _ _ (by omega) (by omega)).mono ?_; rintro e w' ⟨rfl, hb⟩))
  go_ret
  exact ⟨ret_str (by unfold shw; rw [HS.out, str_tilde]), hb⟩
theorem show_any (n : Int) (w : World) :
    Calls Try.prog 40 #[.int .i64 n] w fun e w' => e = .returned (.string (shw (wr n))) ∧ Below w.heap.size w w' := by
  by_cases h : 0 ≤ wr n
  · exact show_pos n w h
  · exact show_neg n w (by omega)
end Go.Proofs.Ytgcojmjllpjefaa
