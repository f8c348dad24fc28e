/- The document's small functions: Few, Same, In, IsPat. -/
import Derived.Test.YtlalnmefppbebaaSynF
namespace Go.Proofs.Ytlalnmefppbebaa
open Go.RowKit Go.Proofs.TreeMath
def fewB (ns : List Nd) : Bool := decide (ns.length ≤ 120) && (ns.take 130).all fun n => decide (n.text.size ≤ 300)
theorem few_yes {ns : List Nd} (h : fewB ns = true) : ns.length ≤ 120 ∧ ∀ n ∈ ns, n.text.size ≤ 300 := by
  unfold fewB at h
  rw [Bool.and_eq_true, decide_eq_true_iff, List.all_eq_true] at h
  refine ⟨h.1, fun n hn => ?_⟩
  have := h.2 n (by rw [List.take_of_length_le (by omega)]; exact hn)
  simpa using this
set_option maxHeartbeats 1000000 in
theorem few_in (p : Option Addr) (n c : Nat) (ns : List Nd) (w : World) (hl : Hid (ns.length = n)) (hn : n ≤ 9223372036854775807) (hp : Hid (n ≠ 0 → ∃ b off, p = some ⟨b, off, none⟩ ∧ b < w.heap.size ∧ CellsIn w b off (nodeCells ns))) : Calls Try.prog 10 #[.slice p n c] w (Pure (.bool (fewB ns)) w) := by
  go_enter Try.func10, Try.ntmps10
  go_wp2
  go_loopw [3] (fun s3 wr => ∃ j : Nat, j ≤ n ∧ j ≤ 130 ∧ s3 = .int .i64 (j : Int) ∧ (ns.take j).all (fun n => decide (n.text.size ≤ 300)) = true ∧ wr = w) (fun s3 _ => 130 - (intOf s3).toNat)
  case atStart => exact ⟨0, Nat.zero_le _, by omega, rfl, rfl, rfl⟩
  case round =>
    obtain ⟨j, hj, hj2, rfl, hall, hwr⟩ := hrel
    subst hwr
    have ALL := Lib.hid hall
    clear hall
    by_cases h1 : j < n
    · have h1' : decide ((j : Int) < (n : Int)) = true := by simp; omega
      by_cases h2 : j < 130
      · have h2' : decide ((j : Int) < 130) = true := by simp; omega
        obtain ⟨b, off, rfl, hb, hc⟩ := hp.out (by omega)
        have hjl : j < ns.length := by rw [hl.out]; exact h1
        obtain ⟨c0, c1, c2, c3⟩ := hc.node j hjl
        have e : ns.getD j default = ns[j] := by simp [List.getD_eq_getElem?_getD, List.getElem?_eq_getElem hjl]
        have ST : Hid ((ns.take (j + 1)).all (fun n => decide (n.text.size ≤ 300)) = decide ((ns.getD j default).text.size ≤ 300)) := Lib.hid (by
          rw [List.take_succ_eq_append_getElem hjl, List.all_append, ALL.out, e]
          simp)
        have BAD : Hid (¬ (ns.getD j default).text.size ≤ 300 → fewB ns = false) := Lib.hid (by
          intro hbad
          cases hf : fewB ns with
          | false => rfl
          | true => exact absurd ((few_yes hf).2 _ (by rw [e]; exact List.getElem_mem hjl)) hbad)
        obtain ⟨nd, hnd⟩ : ∃ nd, nd = ns.getD j default := ⟨_, rfl⟩
        rw [← hnd] at c1 ST BAD
        clear hnd e c0 c2 c3 hc hjl
        obtain ⟨k, t, u, d⟩ := nd
        simp only at c1 ST BAD
        by_cases ht : t.size ≤ 300
        · have g : decide ((300 : Int) < (t.size : Int)) = false := by simp; omega
          have HT := Lib.hid ht
          clear ht
          go_wp2
          go_roundw
          case rel => exact ⟨j + 1, by omega, by omega, by go_num, by rw [ST.out]; simpa using HT.out, by first | trivial | rfl⟩
          case measure => simp [intOf]; omega
        · have g : decide ((300 : Int) < (t.size : Int)) = true := by simp; omega
          have HT := Lib.hid ht
          clear ht
          go_wp2
          go_ret
          exact ⟨ret_b (BAD.out HT.out).symm, rfl⟩
      · have h2' : decide ((j : Int) < 130) = false := by simp; omega
        have R : fewB ns = decide ((n : Int) ≤ 120) := by
          unfold fewB
          rw [hl.out, show ns.take 130 = ns.take j by rw [show j = 130 by omega], ALL.out, Bool.and_true]
          rw [Bool.eq_iff_iff]; simp; omega
        have RH := Lib.hid R
        clear R
        go_wp2
        go_ret
        exact ⟨ret_b (by rw [RH.out]), rfl⟩
    · have h1' : decide ((j : Int) < (n : Int)) = false := by simp; omega
      have R : fewB ns = decide ((n : Int) ≤ 120) := by
        unfold fewB
        rw [hl.out]
        have e : ns.take 130 = ns.take j := by rw [List.take_of_length_le (by rw [hl.out]; omega), List.take_of_length_le (by rw [hl.out]; omega)]
        rw [e, ALL.out, Bool.and_true]
        rw [Bool.eq_iff_iff]; simp; omega
      have RH := Lib.hid R
      clear R
      go_wp2
      go_ret
      exact ⟨ret_b (by rw [RH.out]), rfl⟩
theorem few_any (v : Value) (ns : List Nd) (w : World) (h : NodesAt w v ns) : Calls Try.prog 10 #[v] w (Pure (.bool (fewB ns)) w) := by
  have hle := h.le
  obtain ⟨_, p, c, rfl, _, _, hp⟩ := h
  exact few_in p ns.length c ns w (Lib.hid rfl) (by unfold maxLen at hle; exact hle) (Lib.hid hp)
theorem isPat_any (k : Int) (w : World) : Calls Try.prog 27 #[.int .i64 k] w (Pure (.bool (decide (21 ≤ k) && decide (k ≤ 24))) w) := by
  go_enter Try.func27, Try.ntmps27
  go_wp2
  all_goals go_ret
  all_goals (refine ⟨ret_b ?_, rfl⟩; simp_all)
  all_goals omega
theorem text_ne {a b : ByteArray} (h : ¬ a = b) : ¬ a.toList = b.toList := by
  intro e
  rw [ByteArray.toList_eq, ByteArray.toList_eq] at e
  obtain ⟨⟨a⟩⟩ := a
  obtain ⟨⟨b⟩⟩ := b
  simp at e
  exact h (by rw [e])
set_option maxHeartbeats 1000000 in
theorem in_in (p : Option Addr) (n c : Nat) (ss : List ByteArray) (s : ByteArray) (w : World) (hl : Hid (ss.length = n)) (hn : n ≤ 9223372036854775807) (hp : Hid (n ≠ 0 → ∃ b off, p = some ⟨b, off, none⟩ ∧ b < w.heap.size ∧ CellsIn w b off (strCells ss))) : Calls Try.prog 30 #[.slice p n c, .string s] w (Pure (.bool (inB s ss)) w) := by
  obtain ⟨R, hR⟩ : ∃ R, R = inB s ss := ⟨_, rfl⟩
  rw [← hR]
  have HR := Lib.hid hR
  clear hR
  go_enter Try.func30, Try.ntmps30
  go_wp2
  go_loopw [5] (fun s5 wr => ∃ j : Nat, j ≤ n ∧ s5 = .int .i64 (j : Int) ∧ inB s (ss.drop j) = R ∧ wr = w) (fun s5 _ => n - (intOf s5).toNat)
  case atStart => exact ⟨0, Nat.zero_le _, rfl, HR.out.symm, rfl⟩
  case round =>
    obtain ⟨j, hj, rfl, hin, hwr⟩ := hrel
    subst hwr
    have IN := Lib.hid hin
    clear hin
    by_cases h1 : j < n
    · have h1' : ((j : Int) < (n : Int)) := by omega
      obtain ⟨b, off, rfl, hb, hc⟩ := hp.out (by omega)
      have hjl : j < ss.length := by rw [hl.out]; exact h1
      have c0 := hc.str j hjl
      have DR : Hid (R = (decide (ss.getD j default = s) || inB s (ss.drop (j + 1)))) := Lib.hid (by
        rw [← IN.out, List.drop_eq_getElem_cons hjl, List.getD_eq_getElem?_getD, List.getElem?_eq_getElem hjl]
        rfl)
      obtain ⟨t, ht⟩ : ∃ t, t = ss.getD j default := ⟨_, rfl⟩
      rw [← ht] at c0 DR
      clear ht hc hjl
      by_cases hts : t = s
      · subst hts
        have e := DR.out
        rw [decide_eq_true rfl, Bool.true_or] at e
        have E := Lib.hid e
        clear e
        go_wp2
        go_ret
        exact ⟨ret_b E.out.symm, rfl⟩
      · have g1 := text_ne hts
        have g2 : (t.toList == s.toList) = false := by simpa using g1
        have e := DR.out
        rw [decide_eq_false hts, Bool.false_or] at e
        have E := Lib.hid e
        clear e hts
        go_wp2
        go_roundw
        case rel => exact ⟨j + 1, h1, by go_num, E.out.symm, by first | trivial | rfl⟩
        case measure => simp [intOf]; omega
    · have e := IN.out
      rw [List.drop_eq_nil_of_le (by rw [hl.out]; omega)] at e
      have E := Lib.hid e
      clear e
      go_wp2
      go_ret
      exact ⟨ret_b E.out, rfl⟩
theorem in_any (v : Value) (ss : List ByteArray) (s : ByteArray) (w : World) (h : StrsAt w v ss) : Calls Try.prog 30 #[v, .string s] w (Pure (.bool (inB s ss)) w) := by
  have hle := h.le
  obtain ⟨_, p, c, rfl, _, _, hp⟩ := h
  exact in_in p ss.length c ss s w (Lib.hid rfl) (by unfold maxLen at hle; exact hle) (Lib.hid hp)
set_option maxHeartbeats 1000000 in
theorem same_in (p q : Option Addr) (n c d : Nat) (ss : List ByteArray) (w : World) (hl : Hid (ss.length = n)) (hn : n ≤ 9223372036854775807) (hp : Hid (n ≠ 0 → ∃ b off, p = some ⟨b, off, none⟩ ∧ b < w.heap.size ∧ CellsIn w b off (strCells ss))) (hq : Hid (n ≠ 0 → ∃ b off, q = some ⟨b, off, none⟩ ∧ b < w.heap.size ∧ CellsIn w b off (strCells ss))) :
    Calls Try.prog 23 #[.slice p n c, .slice q n d] w (RB true w) := by
  go_enter Try.func23, Try.ntmps23
  go_wp2
  go_loopw [5] (fun s5 wr => ∃ j : Nat, j ≤ n ∧ s5 = .int .i64 (j : Int) ∧ Below w.heap.size w wr) (fun s5 _ => n - (intOf s5).toNat)
  case atStart => exact ⟨0, Nat.zero_le _, rfl, Below.refl _ _⟩
  case round =>
    obtain ⟨wo, hwo⟩ : ∃ wo : World, wo = wr := ⟨_, rfl⟩
    subst hwo
    obtain ⟨j, hj, rfl, hbl⟩ := hrel
    have BL := Lib.hid hbl
    by_cases h1 : j < n
    · have h1' : ((j : Int) < (n : Int)) := by omega
      obtain ⟨b, off, rfl, hb, hc⟩ := hp.out (by omega)
      obtain ⟨b2, off2, rfl, hb2, hc2⟩ := hq.out (by omega)
      have hjl : j < ss.length := by rw [hl.out]; exact h1
      have c0 := (hc.kept (hbl.block b hb)).str j hjl
      have c1 := (hc2.kept (hbl.block b2 hb2)).str j hjl
      obtain ⟨t, ht⟩ : ∃ t, t = ss.getD j default := ⟨_, rfl⟩
      rw [← ht] at c0 c1
      clear ht hc hc2 hjl hbl
      go_wp2
      go_quiet (fail)
      go_wp2
      go_roundw
      case rel => exact ⟨j + 1, h1, by go_num, ⟨BL.out.os, BL.out.tape, BL.out.output, BL.out.size, BL.out.block⟩⟩
      case measure => simp [intOf]; omega
    · go_wp2
      go_ret
      exact ⟨rfl, BL.out⟩
theorem same_any (v v2 : Value) (ss : List ByteArray) (w : World) (h : StrsAt w v ss) (h2 : StrsAt w v2 ss) : Calls Try.prog 23 #[v, v2] w (RB true w) := by
  have hle := h.le
  obtain ⟨_, p, c, rfl, _, _, hp⟩ := h
  obtain ⟨_, q, d, rfl, _, _, hq⟩ := h2
  exact same_in p q ss.length c d ss w (Lib.hid rfl) (by unfold maxLen at hle; exact hle) (Lib.hid hp) (Lib.hid hq)
end Go.Proofs.Ytlalnmefppbebaa
