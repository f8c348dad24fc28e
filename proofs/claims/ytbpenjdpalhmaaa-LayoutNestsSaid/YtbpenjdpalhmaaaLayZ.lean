/- The document's own answers: Right, column, Flat. -/
import Derived.Test.YtbpenjdpalhmaaaLayX
import Derived.Test.YtbpenjdpalhmaaaLayT
import Derived.Test.YtbpenjdpalhmaaaRefKids
namespace Go.Proofs.Ytbpenjdpalhmaaa
open Go.Shelf Go.RowKit Go.Lib Go.Sort Go.Proofs.TreeMath
theorem ref_right_no (v : Value) (ns : List Nd) (w : World) (h : NodesAt w v ns) (hn : ns.length ≤ 1000000) (h4 : 4000 < ns.length ∨ wholeB (kk ns) = false) : Calls Try.prog 13 #[v] w (RB false w) := by
  have W1 := Lib.hid (ref_whole v ns w h hn)
  obtain ⟨p, c, hv⟩ : ∃ p c, v = .slice p ns.length c := by obtain ⟨_, p, c, hv, _⟩ := h; exact ⟨p, c, hv⟩
  subst hv
  clear h
  by_cases g4 : 4000 < ns.length
  · have g : decide ((4000 : Int) < (ns.length : Int)) = true := by simp; omega
    clear hn h4 W1
    go_enter Try.func13, Try.ntmps13
    go_wp2
    go_ret
    exact ⟨rfl, Below.refl _ _⟩
  · have g : decide ((4000 : Int) < (ns.length : Int)) = false := by simp; omega
    rw [h4.resolve_left g4] at W1
    clear hn h4 g4
    go_enter Try.func13, Try.ntmps13
    go_wp2_with fail
    refine W1.out.mono ?_
    rintro e w1 ⟨rfl, rfl⟩
    go_wp2
    go_ret
    exact ⟨rfl, Below.refl _ _⟩
theorem ref_right (v : Value) (ns : List Nd) (w : World) (h : NodesAt w v ns) (hn : ns.length ≤ 1000000) (ht : ∀ x ∈ ns, x.text.size ≤ 1000000) : Calls Try.prog 13 #[v] w (RB (docB ns) w) := by
  by_cases h4 : 4000 < ns.length
  · rw [docB_long ns h4]
    exact ref_right_no v ns w h hn (.inl h4)
  · cases hw : wholeB (kk ns)
    · rw [docB_whole ns hw]
      exact ref_right_no v ns w h hn (.inr hw)
    · have hp := wholeB_pos _ hw
      rw [length_kk] at hp
      have W1 := ref_whole v ns w h hn
      obtain ⟨b, off, c, rfl, _, _, hb, hc⟩ := nodes_slice h hp
      rw [hw] at W1
      exact ref_right_in b off ns.length c ns w (Lib.hid rfl) (by omega) hb (Lib.hid hc) (Lib.hid ht) (Lib.hid hw) (Lib.hid W1)
theorem colA_snoc (s : ByteArray) (i : Nat) (h : i < s.size) (c : Nat) : colA (s.data.toList.take (i + 1)) c = if s[i] = 10 then 0 else colA (s.data.toList.take i) c + 1 := by
  have hl : i < s.data.toList.length := by simpa using h
  rw [List.take_succ_eq_append_getElem hl, colA_append]
  rfl
theorem byte_ten (c : UInt8) : (c = 10) = ((c.toNat : Int) = 10) := by
  apply propext
  constructor
  · rintro rfl; rfl
  · intro h
    have : c.toNat = (10 : UInt8).toNat := by
      show c.toNat = 10
      omega
    exact UInt8.toNat_inj.1 this
theorem column_any (s : ByteArray) (c : Nat) (w : World) (hs : s.size ≤ 1000000000000) (hc : c ≤ 1000000000000) : Calls Try.prog 44 #[.string s, .int .i64 (c : Int)] w fun e w' => e = .returned (.int .i64 ((colA s.data.toList c : Nat) : Int)) ∧ w = w' := by
  go_enter Try.func44, Try.ntmps44
  go_wp2
  go_loop [1, 5] (fun t1 t5 => ∃ i : Nat, i ≤ s.size ∧ t5 = .int .i64 (i : Int) ∧ t1 = .int .i64 ((colA (s.data.toList.take i) c : Nat) : Int)) (fun _ t5 => s.size - (intOf t5).toNat)
  case atStart => exact ⟨0, Nat.zero_le _, rfl, rfl⟩
  case round =>
    obtain ⟨i, hi, rfl, rfl⟩ := hrel
    by_cases hlt : i < s.size
    · have hsn := colA_snoc s i hlt c
      have hle := colA_le (s.data.toList.take i) c
      have hll : (s.data.toList.take i).length ≤ i := List.length_take_le _ _
      obtain ⟨A, hA⟩ : ∃ A, A = colA (s.data.toList.take i) c := ⟨_, rfl⟩
      rw [← hA] at hsn hle ⊢
      have hAb : A ≤ 2000000000000 := by omega
      have HS := Lib.hid hsn
      clear hsn hA hle hll
      by_cases h1 : (s[i].toNat : Int) = 10
      · have e1 : ((s[i].toNat : Int) == 10) = true := by simpa using h1
        have H1 := Lib.hid h1
        clear h1
        go_wp2
        go_round
        case rel => exact ⟨i + 1, by omega, by go_num, by rw [HS.out, if_pos ((byte_ten _).mpr H1.out)]; rfl⟩
        case measure => simp [intOf]; omega
      · have e1 : ((s[i].toNat : Int) == 10) = false := by simpa using h1
        have H1 := Lib.hid h1
        clear h1
        go_wp2
        go_round
        case rel => exact ⟨i + 1, by omega, by go_num, by rw [HS.out, if_neg (fun e => H1.out ((byte_ten _).mp e))]; go_num⟩
        case measure => simp [intOf]; omega
    · go_wp2
      go_ret
      exact ⟨by rw [List.take_of_length_le (by simp; omega)]; rfl, rfl⟩
theorem conv_ten (W : World) : (convert 56 9 (.slice (some ⟨W.heap.size, 0, none⟩) 1 1)).run Try.prog (W.alloc (.cells #[.int .u8 10] 5)) = .ok (.string (bs [10])) (W.alloc (.cells #[.int .u8 10] 5)) := by
  have := run_convert_bytes_arg (P := Try.prog) (W.alloc (.cells #[.int .u8 10] 5)) 56 5 Try.underlying56 Try.underlying5 W.heap.size 0 1 1 [10] rfl (fun i hi => by
    obtain rfl : i = 0 := by omega
    have h1 : (W.alloc (.cells #[.int .u8 10] 5)).heap[W.heap.size]? = some (.cells #[.int .u8 10] 5 (0, 0)) := by
      show (W.heap.push _)[W.heap.size]? = _
      simp
    rw [Lib.cell_of_heap h1]
    rfl) 9 Try.underlying9
  exact this
end Go.Proofs.Ytbpenjdpalhmaaa
