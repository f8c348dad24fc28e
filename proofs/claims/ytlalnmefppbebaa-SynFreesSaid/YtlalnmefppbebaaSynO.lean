/- The chapter's example; Own. -/
import Derived.Test.YtlalnmefppbebaaSynM
import Derived.Test.YtlalnmefppbebaaSynN
namespace Go.Proofs.Ytlalnmefppbebaa
open Go.RowKit Go.Proofs.TreeMath
def eF : Nd := ⟨5, ⟨#[120]⟩, 0, 1⟩
def eA : Nd := ⟨6, ByteArray.empty, 0, 2⟩
def eV (c : UInt8) : Nd := ⟨3, ⟨#[c]⟩, 0, 0⟩
def exL : List Nd := [eF, eA, eA, eV 43, eV 120, eV 121]
def exK : F := .cons eA (.cons eA (.cons (eV 43) .nil (.cons (eV 120) .nil .nil)) (.cons (eV 121) .nil .nil)) .nil
def epC : Nd := ⟨24, ⟨#[65]⟩, 0, 2⟩
def epV : Nd := ⟨22, ⟨#[98]⟩, 0, 0⟩
def epA : Nd := ⟨21, ByteArray.empty, 0, 0⟩
def epL : List Nd := [epC, epV, epA]
def epK : F := .cons epV .nil (.cons epA .nil .nil)
theorem ex_ok : eF.kids = exK.cnt ∧ exK.ok := by simp [eF, exK, eA, eV, F.cnt, F.ok]
theorem ep_ok : epC.kids = epK.cnt ∧ epK.ok := by simp [epC, epK, epV, epA, F.cnt, F.ok]
theorem ex_chk : synE (.cons eF exK .nil) 0 = 0 := by decide +kernel
theorem ex_free : addAll [] (freeT eF exK) = [⟨#[43]⟩, ⟨#[121]⟩] := by decide +kernel
theorem ep_pat : synE (.cons epC epK .nil) 1 = 0 := by decide +kernel
theorem ep_exp : synE (.cons epC epK .nil) 0 = 61 := by decide +kernel
theorem ep_vars : varsL epL = [⟨#[98]⟩] := by decide +kernel
theorem nx : nameB ⟨#[120]⟩ = true := by decide +kernel
theorem cA : conB ⟨#[65]⟩ = true := by decide +kernel
theorem cx : conB ⟨#[120]⟩ = false := by decide +kernel
theorem ex_tx : Tx exL := by unfold Tx; decide +kernel
theorem ep_tx : Tx epL := by unfold Tx; decide +kernel
theorem nodes_lit (w : World) (ns : List Nd) (n : Nat) (hn : ns.length = n) (hm : n ≤ maxLen) : NodesAt (w.alloc (.cells (nodeCells ns).toArray 42)) (.slice (some ⟨w.heap.size, 0, none⟩) n n) ns := by
  subst hn
  refine ⟨length_nodeCells ns, _, _, rfl, Nat.le_refl _, hm, fun _ => ⟨_, _, rfl, by simp, ?_⟩⟩
  intro j u hj
  have h : (w.alloc (.cells (nodeCells ns).toArray 42)).heap[w.heap.size]? = some (.cells (nodeCells ns).toArray 42 (0, 0)) := by
    show (w.heap.push _)[w.heap.size]? = _
    simp
  rw [Lib.cell_of_heap h, Nat.zero_add]
  simpa using hj
theorem strs_lit (w : World) (ss : List ByteArray) (n : Nat) (hn : ss.length = n) (hm : n ≤ maxLen) : StrsAt (w.alloc (.cells (strCells ss).toArray 9)) (.slice (some ⟨w.heap.size, 0, none⟩) n n) ss := by
  subst hn
  refine ⟨length_strCells ss, _, _, rfl, Nat.le_refl _, hm, fun _ => ⟨_, _, rfl, by simp, ?_⟩⟩
  intro j u hj
  have h : (w.alloc (.cells (strCells ss).toArray 9)).heap[w.heap.size]? = some (.cells (strCells ss).toArray 9 (0, 0)) := by
    show (w.heap.push _)[w.heap.size]? = _
    simp
  rw [Lib.cell_of_heap h, Nat.zero_add]
  simpa using hj
theorem ex_is : CheckIs exL 0 0 := .inr ⟨.cons eF exK .nil, ⟨ex_ok.1, ex_ok.2, trivial⟩, rfl, rfl, ex_chk.symm⟩
theorem ex_fr : FreeIs exL [⟨#[43]⟩, ⟨#[121]⟩] := .inr ⟨eF, exK, ex_ok.1, ex_ok.2, rfl, ex_chk, ex_free.symm⟩
theorem ep_is : CheckIs epL 1 0 := .inr ⟨.cons epC epK .nil, ⟨ep_ok.1, ep_ok.2, trivial⟩, rfl, rfl, ep_pat.symm⟩
theorem ep_no : CheckIs epL 0 61 := .inr ⟨.cons epC epK .nil, ⟨ep_ok.1, ep_ok.2, trivial⟩, rfl, rfl, ep_exp.symm⟩
theorem ep_nm : NamesIs epL [⟨#[98]⟩] := ⟨0, ep_is, by rw [if_pos rfl, ep_vars]⟩
set_option maxRecDepth 100000 in
set_option maxHeartbeats 4000000 in
theorem awake_any (w : World) : Calls Try.prog 9 #[] w (RB true w) := by
  have A := Lib.hid (fun v W (h : NodesAt W v exL) => Check_any v exL 0 W h (by decide) ex_tx ex_is)
  have B := Lib.hid (fun v W (h : NodesAt W v exL) => Free_any v exL _ W h (by decide) ex_tx ex_fr)
  have C := Lib.hid (fun v W (h : NodesAt W v epL) => Pat_any v epL 0 W h (by decide) ep_tx ep_is)
  have D := Lib.hid (fun v W (h : NodesAt W v epL) => Names_any v epL _ W h (by decide) ep_tx ep_nm)
  have E := Lib.hid (fun v W (h : NodesAt W v epL) => Check_any v epL 61 W h (by decide) ep_tx ep_no)
  have S1 := Lib.hid (fun v v2 W h h2 => same_any v v2 [⟨#[43]⟩, ⟨#[121]⟩] W h h2)
  have S2 := Lib.hid (fun v v2 W h h2 => same_any v v2 [⟨#[98]⟩] W h h2)
  have N1 := Lib.hid (fun W => name_any ⟨#[120]⟩ W (by decide))
  have N2 := Lib.hid (fun W => con_any ⟨#[65]⟩ W (by decide))
  have N3 := Lib.hid (fun W => con_any ⟨#[120]⟩ W (by decide))
  rw [nx] at N1
  rw [cA] at N2
  rw [cx] at N3
  go_enter Try.func9, Try.ntmps9
  go_wp2_with fail
  have hb : Below w.heap.size w ((w.alloc (.cells (nodeCells exL).toArray 42)).alloc (.cells (nodeCells epL).toArray 42)) := ((Below.refl _ _).alloc (Nat.le_refl _) _).alloc (by simp) _
  have hL : NodesAt ((w.alloc (.cells (nodeCells exL).toArray 42)).alloc (.cells (nodeCells epL).toArray 42)) (.slice (some ⟨w.heap.size, 0, none⟩) 6 6) exL := (nodes_lit w exL 6 rfl (by decide)).below ((Below.refl _ _).alloc (Nat.le_refl _) _)
  have hP : NodesAt ((w.alloc (.cells (nodeCells exL).toArray 42)).alloc (.cells (nodeCells epL).toArray 42)) (.slice (some ⟨w.heap.size + 1, 0, none⟩) 3 3) epL := by
    have := nodes_lit (w.alloc (.cells (nodeCells exL).toArray 42)) epL 3 rfl (by decide)
    rwa [show (w.alloc (.cells (nodeCells exL).toArray 42)).heap.size = w.heap.size + 1 by simp] at this
  obtain ⟨w0, hw0⟩ : ∃ w0, w0 = (w.alloc (.cells (nodeCells exL).toArray 42)).alloc (.cells (nodeCells epL).toArray 42) := ⟨_, rfl⟩
  rw [← hw0] at hb hL hP
  have hw0' : w0 = (w.alloc (.cells #[.int .i64 5, .string ⟨#[120]⟩, .int .i64 0, .int .i64 1, .int .i64 6, .string ⟨#[]⟩, .int .i64 0, .int .i64 2, .int .i64 6, .string ⟨#[]⟩, .int .i64 0, .int .i64 2, .int .i64 3, .string ⟨#[43]⟩, .int .i64 0, .int .i64 0, .int .i64 3, .string ⟨#[120]⟩, .int .i64 0, .int .i64 0, .int .i64 3, .string ⟨#[121]⟩, .int .i64 0, .int .i64 0] 42)).alloc (.cells #[.int .i64 24, .string ⟨#[65]⟩, .int .i64 0, .int .i64 2, .int .i64 22, .string ⟨#[98]⟩, .int .i64 0, .int .i64 0, .int .i64 21, .string ⟨#[]⟩, .int .i64 0, .int .i64 0] 42) := hw0
  rw [← hw0']
  have HB0 := Lib.hid hb
  have HL0 := Lib.hid hL
  have HP0 := Lib.hid hP
  clear hb hL hP hw0 hw0'
  refine (A.out _ _ HL0.out).mono ?_
  rintro e w1 ⟨rfl, b1⟩
  have HB1 := Lib.hid (HB0.out.trans (b1.mono HB0.out.size))
  have HL1 := Lib.hid (HL0.out.below b1)
  have HP1 := Lib.hid (HP0.out.below b1)
  clear b1 HB0 HL0 HP0
  go_wp2_with fail
  refine (B.out _ _ HL1.out).mono ?_
  rintro e w2 ⟨v2, rfl, h2, b2⟩
  have HB2 := Lib.hid (HB1.out.trans (b2.mono HB1.out.size))
  have HL2 := Lib.hid (HL1.out.below b2)
  have HP2 := Lib.hid (HP1.out.below b2)
  obtain ⟨p2, q2, rfl⟩ := strs_form h2
  have H2 := Lib.hid h2
  clear b2 HB1 HL1 HP1
  go_wp2_with fail
  have H2x := Lib.hid (H2.out.below (show Below w2.heap.size w2 (w2.alloc (.cells #[.string ⟨#[43]⟩, .string ⟨#[121]⟩] 9)) from (Below.refl _ _).alloc (Nat.le_refl _) _))
  have H2y := Lib.hid (strs_lit w2 [⟨#[43]⟩, ⟨#[121]⟩] 2 rfl (by decide))
  have HB2x := Lib.hid (HB2.out.alloc HB2.out.size (.cells #[.string ⟨#[43]⟩, .string ⟨#[121]⟩] 9))
  have b2x : Below w2.heap.size w2 (w2.alloc (.cells #[.string ⟨#[43]⟩, .string ⟨#[121]⟩] 9)) := (Below.refl _ _).alloc (Nat.le_refl _) _
  refine (S1.out _ _ _ H2x.out H2y.out).mono ?_
  rintro e w3 ⟨rfl, b3⟩
  have HB3 := Lib.hid (HB2x.out.trans (b3.mono HB2x.out.size))
  have HL3 := Lib.hid ((HL2.out.below b2x).below b3)
  have HP3 := Lib.hid ((HP2.out.below b2x).below b3)
  clear b3 b2x HB2 HL2 HP2 HB2x H2x H2y H2 h2
  go_wp2_with fail
  refine (C.out _ _ HP3.out).mono ?_
  rintro e w4 ⟨rfl, b4⟩
  have HB4 := Lib.hid (HB3.out.trans (b4.mono HB3.out.size))
  have HL4 := Lib.hid (HL3.out.below b4)
  have HP4 := Lib.hid (HP3.out.below b4)
  clear b4 HB3 HL3 HP3
  go_wp2_with fail
  refine (D.out _ _ HP4.out).mono ?_
  rintro e w5 ⟨v5, rfl, h5, b5⟩
  have HB5 := Lib.hid (HB4.out.trans (b5.mono HB4.out.size))
  have HL5 := Lib.hid (HL4.out.below b5)
  have HP5 := Lib.hid (HP4.out.below b5)
  obtain ⟨p5, q5, rfl⟩ := strs_form h5
  have H5 := Lib.hid h5
  clear b5 HB4 HL4 HP4
  go_wp2_with fail
  have H5x := Lib.hid (H5.out.below (show Below w5.heap.size w5 (w5.alloc (.cells #[.string ⟨#[98]⟩] 9)) from (Below.refl _ _).alloc (Nat.le_refl _) _))
  have H5y := Lib.hid (strs_lit w5 [⟨#[98]⟩] 1 rfl (by decide))
  have HB5x := Lib.hid (HB5.out.alloc HB5.out.size (.cells #[.string ⟨#[98]⟩] 9))
  have b5x : Below w5.heap.size w5 (w5.alloc (.cells #[.string ⟨#[98]⟩] 9)) := (Below.refl _ _).alloc (Nat.le_refl _) _
  refine (S2.out _ _ _ H5x.out H5y.out).mono ?_
  rintro e w6 ⟨rfl, b6⟩
  have HB6 := Lib.hid (HB5x.out.trans (b6.mono HB5x.out.size))
  have HL6 := Lib.hid ((HL5.out.below b5x).below b6)
  have HP6 := Lib.hid ((HP5.out.below b5x).below b6)
  clear b6 b5x HB5 HL5 HP5 HB5x H5x H5y H5 h5
  go_wp2_with fail
  refine (N1.out _).mono ?_
  rintro e w7 ⟨rfl, b7⟩
  have HB7 := Lib.hid (HB6.out.trans (b7.mono HB6.out.size))
  have HL7 := Lib.hid (HL6.out.below b7)
  have HP7 := Lib.hid (HP6.out.below b7)
  clear b7 HB6 HL6 HP6
  go_wp2_with fail
  refine (N2.out _).mono ?_
  rintro e w8 ⟨rfl, b8⟩
  have HB8 := Lib.hid (HB7.out.trans (b8.mono HB7.out.size))
  have HL8 := Lib.hid (HL7.out.below b8)
  have HP8 := Lib.hid (HP7.out.below b8)
  clear b8 HB7 HL7 HP7
  go_wp2_with fail
  refine (N3.out _).mono ?_
  rintro e w9 ⟨rfl, b9⟩
  have HB9 := Lib.hid (HB8.out.trans (b9.mono HB8.out.size))
  have HL9 := Lib.hid (HL8.out.below b9)
  have HP9 := Lib.hid (HP8.out.below b9)
  clear b9 HB8 HL8 HP8
  go_wp2_with fail
  refine (E.out _ _ HP9.out).mono ?_
  rintro e w10 ⟨rfl, b10⟩
  have HB10 := Lib.hid (HB9.out.trans (b10.mono HB9.out.size))
  have HL10 := Lib.hid (HL9.out.below b10)
  have HP10 := Lib.hid (HP9.out.below b10)
  clear b10 HB9 HL9 HP9
  go_wp2_with fail
  go_ret
  exact ⟨rfl, HB10.out⟩
theorem nodes_form {w : World} {v : Value} {ns : List Nd} (h : NodesAt w v ns) : ∃ p c, v = .slice p ns.length c := by
  obtain ⟨_, p, c, hv, _⟩ := h
  exact ⟨p, c, hv⟩
end Go.Proofs.Ytlalnmefppbebaa
