/- The contracts of the document's own Show and Read (package triglyphref01): the text of any number, and the number that a text is; nothing that was there is written. -/
import Derived.Test.YtgcojmjllpjefaaRead
namespace Go.Proofs.Ytgcojmjllpjefaa
open Go.RowKit

theorem dg19_step (x : Int) (h0 : 0 ≤ x) (h1 : x ≤ 4611686018427387904) : dg 19 x = (if x / 10 = 0 then [] else dg 19 (x / 10)) ++ [48 + x % 10] := by
  by_cases h : x < 10
  · rw [dg_small _ _ h, if_pos (by omega)]
    simp; omega
  · rw [dg_big _ _ (by omega), if_neg (by omega)]
    have h2 : dg 19 (x / 10) = dg 18 (x / 10) := dg_more 18 19 _ (by omega) (p10_div _ _ (by rw [p10_19]; omega)) (by omega) (by omega)
    rw [h2]
/-- What the document's loop has done: the digits so far and the number that is left. -/
def Txt (full : Int) (t : List Int) (x : Int) : Prop :=
  (0 ≤ x ∧ x ≤ 4611686018427387904) ∧ ((t = [] ∧ x = full) ∨ (¬ t = [] ∧ dg 19 full = (if x = 0 then [] else dg 19 x) ++ t))
theorem Txt.step {full x : Int} {t : List Int} (h : Txt full t x) (hx : t = [] ∨ 0 < x) : Txt full ((48 + x % 10) :: t) (x / 10) := by
  obtain ⟨h1, h2⟩ := h
  refine ⟨by omega, .inr ⟨by simp, ?_⟩⟩
  have e := dg19_step x h1.1 h1.2
  rcases h2 with ⟨rfl, rfl⟩ | ⟨h3, h4⟩
  · exact e
  · have hp : 0 < x := by rcases hx with hx | hx; exact absurd hx h3; exact hx
    rw [h4, if_neg (by omega), e]
    simp
theorem Txt.len {full x : Int} {t : List Int} (h : Txt full t x) : t.length ≤ 19 := by
  obtain ⟨h1, h2⟩ := h
  rcases h2 with ⟨rfl, rfl⟩ | ⟨h3, h4⟩
  · simp
  · have h5 := dg_length 19 full
    rw [h4] at h5
    simp at h5; omega
theorem Txt.done {full x : Int} {t : List Int} (h : Txt full t x) (ht : ¬ t = []) (hx : x = 0) : dg 19 full = t := by
  obtain ⟨h1, h2⟩ := h
  rcases h2 with ⟨rfl, rfl⟩ | ⟨h3, h4⟩
  · exact absurd rfl ht
  · rw [h4, if_pos hx]; simp
theorem ne_nil_str {t : List Int} (h : ¬ t = []) : ¬ (strOfNums t).toList = [] := by
  rw [ByteArray.toList_eq, strOfNums_data]
  simpa using h
def emptyOf : Value → Nat | .string b => if b.size = 0 then 1 else 0 | _ => 0
theorem empty_cons (d : Int) (t : List Int) : emptyOf (.string (strOfNums [d] ++ strOfNums t)) = 0 := by
  rw [← str_append]
  simp [emptyOf, strOfNums_size]
theorem conv1 (W : World) (v : Int) : (convert 43 9 (.slice (some ⟨W.heap.size, 0, none⟩) 1 1)).run Try.prog (W.alloc (.cells #[.int .u8 v] 5)) = .ok (.string (strOfNums [v])) (W.alloc (.cells #[.int .u8 v] 5)) :=
  run_convert_bytes_arg _ 43 5 Try.underlying43 Try.underlying5 W.heap.size 0 1 1 [v] rfl (fun i hi => by
    obtain rfl : i = 0 := by omega
    have h := heap_alloc_new W (.cells #[.int .u8 v] 5)
    unfold World.cell?
    rw [h]
    rfl) 9 Try.underlying9

set_option maxRecDepth 100000 in
theorem rshow_any (n : Int) (w : World) :
    Calls Try.prog 41 #[.int .i64 n] w fun e w' => e = .returned (.string (shw (wr n))) ∧ Below w.heap.size w w' := by
  have hr := wr_range n
  have hsz := sz_range _ hr
  go_enter Try.func41, Try.ntmps41
  go_wp2_with (first
    | (go_at_call 39; refine (rwrap_any _ _).mono ?_; rintro e w' ⟨rfl, rfl⟩)
    | (go_at_call 60; refine (size_any _ _ (wr_range _).1 (wr_range _).2).mono ?_; rintro e w' ⟨rfl, rfl⟩))
  have hw := wr_range n
  generalize hfull : sz (wr n) = full at *
  have HF : Hid (sz (wr n) = full) := hfull
  clear hfull
  go_loopw [3, 4] (fun s m W => ∃ (t : List Int) (x : Int), s = .string (strOfNums t) ∧ m = .int .u64 x ∧ Below w.heap.size w W ∧ Txt full t x) (fun s m _ => (intOf m).toNat + emptyOf s)
  case atStart => exact ⟨[], full, rfl, rfl, Below.refl _ _, hsz, .inl ⟨rfl, rfl⟩⟩
  case round =>
    obtain ⟨wd, hwd⟩ : ∃ wd : World, wd = wr := ⟨_, rfl⟩
    obtain ⟨t, x, rfl, rfl, hbel, hT⟩ := hrel
    subst hwd
    have hlen : (strOfNums t).size ≤ 19 := by rw [strOfNums_size]; exact hT.len
    have hl1 : (strOfNums [48 + x % 10]).size ≤ 1 := by rw [strOfNums_size]; simp
    obtain ⟨hx0, hx1⟩ := hT.1
    have HT : Hid (Txt full t x) := hT
    have HB : Hid (Below w.heap.size w wd) := hbel
    clear hT hbel
    have hcv := conv1 wd
    by_cases ht : t = []
    · have e1 : (strOfNums t).toList = [] := by rw [ByteArray.toList_eq, strOfNums_data, ht]; rfl
      have HE : Hid (t = []) := ht
      clear ht
      go_wp2_with fail
      have m1 := empty_cons (48 + x % 10) t
      have m2 : emptyOf (.string (strOfNums t)) = 1 := by rw [HE.out]; rfl
      go_roundw
      case rel => exact ⟨(48 + x % 10) :: t, x / 10, congrArg Value.string (str_append [48 + x % 10] t).symm, rfl, HB.out.alloc HB.out.size _, HT.out.step (.inl HE.out)⟩
      case measure => simp [intOf, m1, m2]; omega
    · have e1 : ¬ (strOfNums t).toList = [] := ne_nil_str ht
      have e2 : (strOfNums t).toList.isEmpty = false := by simpa using e1
      by_cases hx : 0 < x
      · have e3 : decide (0 < x) = true := by simpa using hx
        go_wp2_with fail
        have m1 := empty_cons (48 + x % 10) t
        go_roundw
        case rel => exact ⟨(48 + x % 10) :: t, x / 10, congrArg Value.string (str_append [48 + x % 10] t).symm, rfl, HB.out.alloc HB.out.size _, HT.out.step (.inr hx)⟩
        case measure => simp [intOf, m1]; omega
      · have e3 : decide (0 < x) = false := by simpa using hx
        have hd := HT.out.done ht (by omega)
        have HD : Hid (dg 19 (sz (wr n)) = t) := by rw [HF.out]; exact hd
        clear hd
        by_cases hn : wr n < 0
        · have e4 : decide (wr n < 0) = true := by simpa using hn
          go_wp2_with fail
          go_ret
          refine ⟨ret_str ?_, HB.out⟩
          unfold shw
          rw [shl_neg _ hn, ← sz_neg _ hn, HD.out, str_tilde]
        · have e4 : decide (wr n < 0) = false := by simpa using hn
          go_wp2_with fail
          go_ret
          refine ⟨ret_str ?_, HB.out⟩
          have hn' : 0 ≤ wr n := by omega
          unfold shw
          have hz := sz_pos _ hn'
          rw [shl_pos _ hn', ← HD.out, hz]
end Go.Proofs.Ytgcojmjllpjefaa
