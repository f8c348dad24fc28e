/- The contracts of the document's own Quote, Right, Word, Show. -/
import Derived.Test.YtgcojmjllpjefaaConv
import Derived.Test.YtgcojmjllpjefaaRefA
import Derived.StillTailTactics
namespace Go.Proofs.Ytgcojmjllpjefaa
open Go.RowKit Go.Proofs.LexMath

theorem bs_append (a b : Bs) : bs a ++ bs b = bs (a ++ b) := by
  apply list_inj
  simp [bs, ByteArray.data_append]
theorem bs_size (a : Bs) : (bs a).size = a.length := by simp [bs, ByteArray.size]
theorem cut_one (s : ByteArray) (k : Nat) (h : k < s.size) (W : World) : (Instr.slice 9 (.string s) (some (.int .i64 (k : Int))) (some (.int .i64 ((k : Int) + 1))) none).run Try.prog W = .ok (.string (bs [s[k]])) W := by
  have e : s.extract k (k + 1) = bs [s[k]] := by
    apply list_inj
    have := (cut_form s k 0 h (by omega)).1
    simpa [bs_list] using this
  exact cut_run s k (k + 1) (by omega) (by omega) _ e W
theorem conv_drew (W : World) (l : Bs) : (convert 43 9 (.slice (some ⟨W.heap.size, 0, none⟩) l.length l.length)).run Try.prog (W.alloc (.cells (byteVals l).toArray 5)).drew = .ok (.string (bs l)) (W.alloc (.cells (byteVals l).toArray 5)).drew := conv_new W.drew l
theorem q_hexN (s : ByteArray) (i n : Nat) (acc : Bs) (h : QAt s i n acc) (hi : i < s.size) (c : UInt8) (hc : s[i] = c) (h1 : ¬ (iv c = 34 ∨ iv c = 92)) (h2 : ¬ iv c = 10) (h3 : pln (iv c) = false) (g1 : c.toNat / 16 < 16) (g2 : c.toNat % 16 < 16) :
    QAt s (i + 1) (n + 4) (acc ++ [92, 120, hexB[c.toNat / 16]'g1, hexB[c.toNat % 16]'g2]) := by
  have e1 : ((c.toNat : Int) / 16).toNat = c.toNat / 16 := by omega
  have e2 : ((c.toNat : Int) % 16).toNat = c.toNat % 16 := by omega
  have := q_hex s i n acc h hi c hc h1 h2 h3 (by rw [e1]; exact g1) (by rw [e2]; exact g2)
  simpa only [e1, e2] using this
set_option maxRecDepth 100000 in
set_option maxHeartbeats 4000000 in
theorem rquote_any (s : ByteArray) (w : World) (hs : s.size ≤ 10000) : Calls Try.prog 27 #[.string s] w (SRet (bs (quote s.data.toList)) w) := by
  have START := Lib.hid (q_start s)
  have END := Lib.hid (q_end s)
  have STEP := Lib.hid (q_step s)
  have BEL : Hid (Below w.heap.size w (w.alloc (.cells #[.int .u8 34] 5))) := Lib.hid ((Below.refl _ _).alloc (Nat.le_refl _) _)
  generalize quote s.data.toList = q at *
  have hcv34 : ∀ W : World, (convert 43 9 (.slice (some ⟨W.heap.size, 0, none⟩) 1 1)).run Try.prog (W.alloc (.cells #[.int .u8 34] 5)) = .ok (.string (bs [34])) (W.alloc (.cells #[.int .u8 34] 5)) := fun W => conv_new W [34]
  have hcv92 : ∀ W : World, (convert 43 9 (.slice (some ⟨W.heap.size, 0, none⟩) 1 1)).run Try.prog (W.alloc (.cells #[.int .u8 92] 5)).drew = .ok (.string (bs [92])) (W.alloc (.cells #[.int .u8 92] 5)).drew := fun W => conv_drew W [92]
  have hcvn : ∀ W : World, (convert 43 9 (.slice (some ⟨W.heap.size, 0, none⟩) 2 2)).run Try.prog (W.alloc (.cells #[.int .u8 92, .int .u8 110] 5)) = .ok (.string (bs [92, 110])) (W.alloc (.cells #[.int .u8 92, .int .u8 110] 5)) := fun W => conv_new W [92, 110]
  have z1 : (bs [34]).size ≤ 1 := by rw [bs_size]; simp
  have z2 : (bs [92]).size ≤ 1 := by rw [bs_size]; simp
  have z3 : (bs [92, 110]).size ≤ 2 := by rw [bs_size]; simp
  go_enter Try.func27, Try.ntmps27
  go_wp2
  go_loopw [4, 5] (fun t i wr => ∃ (k n : Nat) (acc : Bs), i = .int .i64 k ∧ QAt s k n acc ∧ t = .string (bs acc) ∧ Below w.heap.size w wr) (fun _ i _ => s.size - (intOf i).toNat)
  case atStart => exact ⟨0, 1, [34], by go_num, START.out, rfl, BEL.out⟩
  case round =>
    obtain ⟨wo, hwo⟩ : ∃ wo : World, wo = wr := ⟨_, rfl⟩
    subst hwo
    obtain ⟨k, n, acc, rfl, hL, rfl, hB⟩ := hrel
    have hL' := hL
    obtain ⟨h1, h2, h3, -⟩ := hL'
    have hza : (bs acc).size ≤ 40001 := by rw [bs_size]; omega
    have HL := Lib.hid hL
    have hsz := hB.size
    have HB := Lib.hid hB
    clear hL hB h3
    by_cases hk : k < s.size
    · have hb : (s[k].toNat : Int) ≤ 255 := by have := s[k].toNat_lt; omega
      have zk : (bs [s[k]]).size ≤ 1 := by rw [bs_size]; simp
      have hcut := fun W => cut_one s k hk W
      by_cases g : iv s[k] = 34 ∨ iv s[k] = 92
      · have Q := Lib.hid (STEP.out k n acc _ 2 HL.out hk (q_1 s[k] g) rfl)
        have HA : Hid (∀ o, Below w.heap.size w (wo.alloc o).drew) := Lib.hid fun o => (HB.out.alloc hsz o).drew
        by_cases g1 : iv s[k] = 34
        · have t1 := test_iv g1
          clear g g1
          go_wp2
          go_region
          all_goals
            go_wp2
            go_roundw
            case rel => exact ⟨k + 1, n + 2, _, by go_num, Q.out, by rw [bs_append, bs_append]; rfl, HA.out _⟩
            case measure => simp [intOf]; omega
        · have t1 := test_iv' g1
          have t2 := test_iv (show iv s[k] = 92 by omega)
          clear g g1
          go_wp2
          go_region
          all_goals
            go_wp2
            go_roundw
            case rel => exact ⟨k + 1, n + 2, _, by go_num, Q.out, by rw [bs_append, bs_append]; rfl, HA.out _⟩
            case measure => simp [intOf]; omega
      · have t1 := test_iv' (show ¬ iv s[k] = 34 by omega)
        have t2 := test_iv' (show ¬ iv s[k] = 92 by omega)
        by_cases g3 : iv s[k] = 10
        · have t3 := test_iv g3
          have Q := Lib.hid (STEP.out k n acc _ 2 HL.out hk (q_2 s[k] g3) rfl)
          have HA : Hid (∀ o, Below w.heap.size w (wo.alloc o)) := Lib.hid fun o => HB.out.alloc hsz o
          clear g g3
          go_wp2
          go_roundw
          case rel => exact ⟨k + 1, n + 2, _, by go_num, Q.out, by rw [bs_append], HA.out _⟩
          case measure => simp [intOf]; omega
        · have t3 := test_iv' g3
          cases hp : pln (iv s[k]) with
          | true =>
            have Q := Lib.hid (STEP.out k n acc _ 1 HL.out hk (q_3 s[k] g g3 hp) rfl)
            simp [pln] at hp
            have u1 : decide ((32 : Int) ≤ (s[k].toNat : Int)) = true := by simpa [iv] using hp.1
            have u2 : decide ((s[k].toNat : Int) ≤ 126) = true := by simpa [iv] using hp.2
            clear g g3 hp
            go_wp2
            go_roundw
            case rel => exact ⟨k + 1, n + 1, _, by go_num, Q.out, by rw [bs_append], HB.out⟩
            case measure => simp [intOf]; omega
          | false =>
            have d1 : 0 ≤ (s[k].toNat : Int) / 16 ∧ (s[k].toNat : Int) / 16 < 16 := by omega
            have d2 : 0 ≤ (s[k].toNat : Int) % 16 ∧ (s[k].toNat : Int) % 16 < 16 := by omega
            have p1 : s[k].toNat / 16 < 16 := by omega
            have p2 : s[k].toNat % 16 < 16 := by omega
            have Q := Lib.hid (q_hexN s k n acc HL.out hk s[k] rfl g g3 hp p1 p2)
            have zh : (bs [92, 120, hexB[s[k].toNat / 16]'p1, hexB[s[k].toNat % 16]'p2]).size ≤ 4 := by rw [bs_size]; simp
            have hcvh : ∀ W : World, (convert 43 9 (.slice (some ⟨W.heap.size, 0, none⟩) 4 4)).run Try.prog (W.alloc (.cells #[.int .u8 92, .int .u8 120, .int .u8 ((hexB[s[k].toNat / 16]'p1).toNat : Nat), .int .u8 ((hexB[s[k].toNat % 16]'p2).toNat : Nat)] 5)).drew = .ok (.string (bs [92, 120, hexB[s[k].toNat / 16]'p1, hexB[s[k].toNat % 16]'p2])) (W.alloc (.cells #[.int .u8 92, .int .u8 120, .int .u8 ((hexB[s[k].toNat / 16]'p1).toNat : Nat), .int .u8 ((hexB[s[k].toNat % 16]'p2).toNat : Nat)] 5)).drew := fun W => conv_drew W [92, 120, hexB[s[k].toNat / 16]'p1, hexB[s[k].toNat % 16]'p2]
            have HA : Hid (∀ o, Below w.heap.size w (wo.alloc o).drew) := Lib.hid fun o => (HB.out.alloc hsz o).drew
            have hq : ¬ (32 ≤ (s[k].toNat : Int) ∧ (s[k].toNat : Int) ≤ 126) := by
              rintro ⟨a, b⟩
              have : pln (iv s[k]) = true := by simp [pln, iv, a, b]
              rw [hp] at this; cases this
            clear g g3 hp
            by_cases g5 : (32 : Int) ≤ (s[k].toNat : Int)
            · have u1 : decide ((32 : Int) ≤ (s[k].toNat : Int)) = true := by simpa using g5
              have u2 : decide ((s[k].toNat : Int) ≤ 126) = false := by simp; omega
              clear hq
              go_wp2
              go_region
              all_goals
                go_wp2
                go_roundw
                case rel => exact ⟨k + 1, n + 4, _, by go_num, Q.out, by rw [bs_append], HA.out _⟩
                case measure => simp [intOf]; omega
            · have u1 : decide ((32 : Int) ≤ (s[k].toNat : Int)) = false := by simpa using g5
              clear hq
              go_wp2
              go_region
              all_goals
                go_wp2
                go_roundw
                case rel => exact ⟨k + 1, n + 4, _, by go_num, Q.out, by rw [bs_append], HA.out _⟩
                case measure => simp [intOf]; omega
    · have E := Lib.hid (END.out k n acc HL.out hk)
      have HA : Hid (∀ o, Below w.heap.size w (wo.alloc o)) := Lib.hid fun o => HB.out.alloc hsz o
      go_wp2
      go_ret
      refine ⟨ret_str ?_, HA.out _⟩
      rw [bs_append, E.out]
end Go.Proofs.Ytgcojmjllpjefaa
