/- Texts of this seat, one behind the other: LxToken. -/
import Derived.Test.YtggjckalmlploaaGreatDoorKn14
/- The contract of token, class by class. -/
set_option maxRecDepth 100000
namespace Go.Proofs.YtggjckalmlploaaGreatDoor.Lx
open Go.RowKit Go.Proofs.LexMath

def TRes (x : Tok × Int × Int) (W : World) (e : Ending) (w' : World) : Prop := e = .returned (.tuple #[tokV x.1, .int .i64 x.2.1, .int .i64 x.2.2]) ∧ Below W.heap.size W w'
theorem ret_tres {x : Tok × Int × Int} {t : Tok} {a b : Int} (h : x = (t, a, b)) : Ending.returned (.tuple #[tokV t, .int .i64 a, .int .i64 b]) = .returned (.tuple #[tokV x.1, .int .i64 x.2.1, .int .i64 x.2.2]) := by rw [h]
def tok0 (w : World) : World := w.alloc (.cells #[.int .i64 0, .string ⟨#[]⟩, .int .i64 0, .int .i64 0] 45)
theorem tok0_facts {w w' : World} (b : Below (tok0 w).heap.size (tok0 w) w') :
    (w'.cell? ⟨w.heap.size, 0, none⟩ = some (.int .i64 0) ∧ w'.cell? ⟨w.heap.size, 1, none⟩ = some (.string ⟨#[]⟩) ∧ w'.cell? ⟨w.heap.size, 2, none⟩ = some (.int .i64 0) ∧ w'.cell? ⟨w.heap.size, 3, none⟩ = some (.int .i64 0)) ∧
    (w'.frozen? ⟨w.heap.size, 0, none⟩ = false ∧ w'.frozen? ⟨w.heap.size, 1, none⟩ = false ∧ w'.frozen? ⟨w.heap.size, 2, none⟩ = false ∧ w'.frozen? ⟨w.heap.size, 3, none⟩ = false) :=
  ((TokBlk.new w).below b (by simp [tok0])).facts
theorem tok0_below {w w' : World} (b : Below (tok0 w).heap.size (tok0 w) w') : Below w.heap.size w w' := ((Below.refl _ _).alloc (Nat.le_refl _) _).trans (b.mono (by simp [tok0]))
theorem cut_run (s : ByteArray) (i j : Nat) (h : i ≤ j) (h' : j ≤ s.size) (d : ByteArray) (hd : s.extract i j = d) (W : World) : (Instr.slice 9 (.string s) (some (.int .i64 i)) (some (.int .i64 j)) none).run Tryz.prog W = .ok (.string d) W := by
  rw [run_slice_string (P := Tryz.prog) W 9 s .i64 .i64 i j Tryz.underlying9 (by omega) (by omega) (by omega), Int.toNat_natCast, Int.toNat_natCast, hd]
set_option maxRecDepth 100000 in
set_option maxHeartbeats 1000000 in
theorem token_ltr (s : ByteArray) (at_ : Nat) (w : World) (hat : at_ < s.size) (hs : s.size ≤ 100000000) (hc : ltr (iv s[at_]) = true) :
    Calls Tryz.prog 25 #[.string s, .int .i64 at_] w (TRes (oneV at_ (one (s.data.toList.drop at_))) w) := by
  have hb : (s[at_].toNat : Int) ≤ 255 := by have := s[at_].toNat_lt; omega
  have E := tok_ltr s at_ hat hc _ rfl
  have hn := run_fits tl s at_ hat
  have D := cut_form s at_ _ hat hn
  have S := fun v W (hv : Cls W v tl) => span_any s (at_ + 1) v tl W (by omega) (by omega) tl_wide hv
  have hm : at_ + 1 ≤ at_ + 1 + run tl (s.data.toList.drop (at_ + 1)) := Nat.le_add_right _ _
  generalize hdd : s.extract at_ (at_ + 1 + run tl (s.data.toList.drop (at_ + 1))) = d at *
  generalize at_ + 1 + run tl (s.data.toList.drop (at_ + 1)) = m at *
  obtain ⟨h0, h1⟩ := head_form D.1
  have N := fun W => named_any d W h0
  rw [h1] at N
  generalize (if key d.data.toList = true then (6 : Int) else if low (s[at_].toNat : Int) = true then 1 else 2) = kd at *
  have SS := Lib.hid S
  have NN := Lib.hid N
  have EE := Lib.hid E
  have HC := Lib.hid hc
  have hcut := cut_run s at_ m (by omega) hn d hdd
  clear S N E h1 h0 D hc hdd
  go_enter Tryz.func25, Tryz.ntmps25
  go_wp2_with fail
  refine (letters_any _).mono ?_
  rintro e w1 ⟨v1, rfl, c1, b1⟩
  obtain ⟨f1, caps1, rfl, hf1, hcl1⟩ := c1
  have HW1 := Lib.hid hf1
  have HL1 := hcl1 (s[at_].toNat : Nat) w1 (Below.refl _ _)
  rw [show ltr (s[at_].toNat : Int) = true from HC.out] at HL1
  have HK1 := Lib.hid HL1
  have BB : Hid (Below (tok0 w).heap.size (tok0 w) w1) := Lib.hid b1
  clear hf1 hcl1 b1 HL1
  go_wp2_with ((refine wpList_call_slot (o := ⟨some 23, _, _, _, _, _⟩) rfl 21 _ _ rfl f1 caps1 rfl HW1.out (#[.int .i32 (s[at_].toNat : Nat)] ++ caps1) (by simp [go_sem]) ?_; refine HK1.out.mono ?_; rintro e w2 ⟨rfl, hs2⟩; refine ⟨_, rfl, ?_⟩; simp only [Act.put, List.setIfInBounds_toArray, List.set_cons_succ, List.set_cons_zero]; have BB := Lib.hid (BB.out.trans (hs2.mono BB.out.size)); clear hs2))
  refine (tails_any _).mono ?_
  rintro e w3 ⟨v3, rfl, c3, b3⟩
  have hc3 := c3
  obtain ⟨f3, caps3, rfl⟩ := hc3.form
  have BB := Lib.hid (BB.out.trans (b3.mono BB.out.size))
  have CC := Lib.hid c3
  clear c3 b3 hc3
  go_wp2_with fail
  refine (SS.out _ _ CC.out).mono ?_
  rintro e w4 ⟨rfl, b4⟩
  have BB := Lib.hid (BB.out.trans (b4.mono BB.out.size))
  clear b4
  go_wp2_with fail
  refine (NN.out _).mono ?_
  rintro e w5 ⟨rfl, b5⟩
  have BB := Lib.hid (BB.out.trans (b5.mono BB.out.size))
  unfold tokV
  have ⟨⟨q1, q2, q3, q4⟩, ⟨f1, f2, f3, f4⟩⟩ := tok0_facts BB.out
  clear b5
  go_wp2
  refine bodyPost_ret (v := .tuple #[tokV ⟨kd, d, 0, 0⟩, .int .i64 m, .int .i64 0]) (by simp [results, Tryz.results25, go_sem, tokV, q1, q2, q3, q4]) rfl ⟨ret_tres EE.out, ?_⟩
  exact ((((tok0_below BB.out).setCell (Nat.le_refl _) _).setCell (Nat.le_refl _) _).setCell (Nat.le_refl _) _).setCell (Nat.le_refl _) _
set_option maxRecDepth 100000 in
set_option maxHeartbeats 1000000 in
theorem token_tilde (s : ByteArray) (at_ : Nat) (w : World) (hat : at_ < s.size) (hs : s.size ≤ 100000000) (hc : iv s[at_] = 126) :
    Calls Tryz.prog 25 #[.string s, .int .i64 at_] w (TRes (oneV at_ (one (s.data.toList.drop at_))) w) := by
  have hb : (s[at_].toNat : Int) ≤ 255 := by have := s[at_].toNat_lt; omega
  have h1 : ltr (iv s[at_]) = false := by rw [hc]; rfl
  have E := tok_num s at_ hat h1 (.inl hc) _ rfl
  have t1 := test_iv hc
  have hn := run_fits dgt s at_ hat
  have hm : at_ + 1 ≤ at_ + 1 + run dgt (s.data.toList.drop (at_ + 1)) := Nat.le_add_right _ _
  have S := fun v W (hv : Cls W v dgt) => span_any s (at_ + 1) v dgt W (by omega) (by omega) dgt_wide hv
  generalize hdd : s.extract at_ (at_ + 1 + run dgt (s.data.toList.drop (at_ + 1))) = d at *
  generalize at_ + 1 + run dgt (s.data.toList.drop (at_ + 1)) = m at *
  have SS := Lib.hid S
  have hcut := cut_run s at_ m (by omega) hn d hdd
  clear S hdd
  have R := fun W => read_any d W
  have L1 := Lib.hid h1
  have L2 := Lib.hid hc
  clear h1 hc
  cases hq : num? d.data.toList with
  | none =>
    rw [hq] at R E
    have RR := Lib.hid R
    have EE := Lib.hid E
    clear R E hq
    simp only [numV] at RR EE
    go_enter Tryz.func25, Tryz.ntmps25
    go_wp2_with fail
    refine (letters_any _).mono ?_
    rintro e wa1 ⟨v1, rfl, c1, b1⟩
    obtain ⟨f1, caps1, rfl, hf1, hcl1⟩ := c1
    have HW1 := Lib.hid hf1
    have HL1 := hcl1 (s[at_].toNat : Nat) wa1 (Below.refl _ _)
    rw [show ltr (s[at_].toNat : Int) = false from L1.out] at HL1
    have HK1 := Lib.hid HL1
    have BB : Hid (Below (tok0 w).heap.size (tok0 w) wa1) := Lib.hid b1
    clear hf1 hcl1 b1 HL1
    go_wp2_with ((refine wpList_call_slot (o := ⟨some 23, _, _, _, _, _⟩) rfl 21 _ _ rfl f1 caps1 rfl HW1.out (#[.int .i32 (s[at_].toNat : Nat)] ++ caps1) ?cx1 ?_; (case cx1 => simp [go_sem]); refine HK1.out.mono ?_; rintro e wb1 ⟨rfl, hs1⟩; refine ⟨_, rfl, ?_⟩; simp only [Act.put, List.setIfInBounds_toArray, List.set_cons_succ, List.set_cons_zero]; have BB := Lib.hid (BB.out.trans (hs1.mono BB.out.size)); clear hs1))
    go_wp2_with fail
    refine (digits_cls _).mono ?_
    rintro e wc3 ⟨x3, rfl, c3, b3⟩
    have hc3 := c3
    obtain ⟨g3, caps3, rfl⟩ := hc3.form
    have BB := Lib.hid (BB.out.trans (b3.mono BB.out.size))
    have CC := Lib.hid c3
    clear c3 b3 hc3
    go_wp2_with fail
    refine (SS.out _ _ CC.out).mono ?_
    rintro e wd3 ⟨rfl, b3⟩
    have BB := Lib.hid (BB.out.trans (b3.mono BB.out.size))
    clear b3
    go_wp2_with fail
    refine (RR.out _).mono ?_
    rintro e w9 ⟨rfl, b9⟩
    have BB := Lib.hid (BB.out.trans (b9.mono BB.out.size))
    clear b9
    have ⟨⟨q1, q2, q3, q4⟩, ⟨f1, f2, f3, f4⟩⟩ := tok0_facts BB.out
    go_wp2
    refine bodyPost_ret (v := .tuple #[tokV ⟨0, ⟨#[]⟩, 0, 0⟩, .int .i64 0, .int .i64 31]) (by simp [results, Tryz.results25, go_sem, tokV, q1, q2, q3, q4]) rfl ⟨ret_tres EE.out, ?_⟩
    exact ((((tok0_below BB.out).setCell (Nat.le_refl _) _).setCell (Nat.le_refl _) _).setCell (Nat.le_refl _) _).setCell (Nat.le_refl _) _
  | some v =>
    rw [hq] at R E
    have RR := Lib.hid R
    have EE := Lib.hid E
    clear R E hq
    simp only [numV] at RR EE
    go_enter Tryz.func25, Tryz.ntmps25
    go_wp2_with fail
    refine (letters_any _).mono ?_
    rintro e wa1 ⟨v1, rfl, c1, b1⟩
    obtain ⟨f1, caps1, rfl, hf1, hcl1⟩ := c1
    have HW1 := Lib.hid hf1
    have HL1 := hcl1 (s[at_].toNat : Nat) wa1 (Below.refl _ _)
    rw [show ltr (s[at_].toNat : Int) = false from L1.out] at HL1
    have HK1 := Lib.hid HL1
    have BB : Hid (Below (tok0 w).heap.size (tok0 w) wa1) := Lib.hid b1
    clear hf1 hcl1 b1 HL1
    go_wp2_with ((refine wpList_call_slot (o := ⟨some 23, _, _, _, _, _⟩) rfl 21 _ _ rfl f1 caps1 rfl HW1.out (#[.int .i32 (s[at_].toNat : Nat)] ++ caps1) ?cx1 ?_; (case cx1 => simp [go_sem]); refine HK1.out.mono ?_; rintro e wb1 ⟨rfl, hs1⟩; refine ⟨_, rfl, ?_⟩; simp only [Act.put, List.setIfInBounds_toArray, List.set_cons_succ, List.set_cons_zero]; have BB := Lib.hid (BB.out.trans (hs1.mono BB.out.size)); clear hs1))
    go_wp2_with fail
    refine (digits_cls _).mono ?_
    rintro e wc3 ⟨x3, rfl, c3, b3⟩
    have hc3 := c3
    obtain ⟨g3, caps3, rfl⟩ := hc3.form
    have BB := Lib.hid (BB.out.trans (b3.mono BB.out.size))
    have CC := Lib.hid c3
    clear c3 b3 hc3
    go_wp2_with fail
    refine (SS.out _ _ CC.out).mono ?_
    rintro e wd3 ⟨rfl, b3⟩
    have BB := Lib.hid (BB.out.trans (b3.mono BB.out.size))
    clear b3
    go_wp2_with fail
    refine (RR.out _).mono ?_
    rintro e w9 ⟨rfl, b9⟩
    have BB := Lib.hid (BB.out.trans (b9.mono BB.out.size))
    clear b9
    have ⟨⟨q1, q2, q3, q4⟩, ⟨f1, f2, f3, f4⟩⟩ := tok0_facts BB.out
    go_wp2
    refine bodyPost_ret (v := .tuple #[tokV ⟨3, ⟨#[]⟩, v, 0⟩, .int .i64 m, .int .i64 0]) (by simp [results, Tryz.results25, go_sem, tokV, q1, q2, q3, q4]) rfl ⟨ret_tres EE.out, ?_⟩
    exact ((((tok0_below BB.out).setCell (Nat.le_refl _) _).setCell (Nat.le_refl _) _).setCell (Nat.le_refl _) _).setCell (Nat.le_refl _) _
set_option maxRecDepth 100000 in
set_option maxHeartbeats 1000000 in
theorem token_digit (s : ByteArray) (at_ : Nat) (w : World) (hat : at_ < s.size) (hs : s.size ≤ 100000000) (h1 : ltr (iv s[at_]) = false) (hc : dgt (iv s[at_]) = true) :
    Calls Tryz.prog 25 #[.string s, .int .i64 at_] w (TRes (oneV at_ (one (s.data.toList.drop at_))) w) := by
  have hb : (s[at_].toNat : Int) ≤ 255 := by have := s[at_].toNat_lt; omega
  have t1 : ((s[at_].toNat : Int) == 126) = false := test_iv' (by simp [dgt] at hc; omega)
  have E := tok_num s at_ hat h1 (.inr hc) _ rfl
  have hn := run_fits dgt s at_ hat
  have hm : at_ + 1 ≤ at_ + 1 + run dgt (s.data.toList.drop (at_ + 1)) := Nat.le_add_right _ _
  have S := fun v W (hv : Cls W v dgt) => span_any s (at_ + 1) v dgt W (by omega) (by omega) dgt_wide hv
  generalize hdd : s.extract at_ (at_ + 1 + run dgt (s.data.toList.drop (at_ + 1))) = d at *
  generalize at_ + 1 + run dgt (s.data.toList.drop (at_ + 1)) = m at *
  have SS := Lib.hid S
  have hcut := cut_run s at_ m (by omega) hn d hdd
  clear S hdd
  have R := fun W => read_any d W
  have L1 := Lib.hid h1
  have L2 := Lib.hid hc
  clear h1 hc
  cases hq : num? d.data.toList with
  | none =>
    rw [hq] at R E
    have RR := Lib.hid R
    have EE := Lib.hid E
    clear R E hq
    simp only [numV] at RR EE
    go_enter Tryz.func25, Tryz.ntmps25
    go_wp2_with fail
    refine (letters_any _).mono ?_
    rintro e wa1 ⟨v1, rfl, c1, b1⟩
    obtain ⟨f1, caps1, rfl, hf1, hcl1⟩ := c1
    have HW1 := Lib.hid hf1
    have HL1 := hcl1 (s[at_].toNat : Nat) wa1 (Below.refl _ _)
    rw [show ltr (s[at_].toNat : Int) = false from L1.out] at HL1
    have HK1 := Lib.hid HL1
    have BB : Hid (Below (tok0 w).heap.size (tok0 w) wa1) := Lib.hid b1
    clear hf1 hcl1 b1 HL1
    go_wp2_with ((refine wpList_call_slot (o := ⟨some 23, _, _, _, _, _⟩) rfl 21 _ _ rfl f1 caps1 rfl HW1.out (#[.int .i32 (s[at_].toNat : Nat)] ++ caps1) ?cx1 ?_; (case cx1 => simp [go_sem]); refine HK1.out.mono ?_; rintro e wb1 ⟨rfl, hs1⟩; refine ⟨_, rfl, ?_⟩; simp only [Act.put, List.setIfInBounds_toArray, List.set_cons_succ, List.set_cons_zero]; have BB := Lib.hid (BB.out.trans (hs1.mono BB.out.size)); clear hs1))
    go_wp2_with fail
    refine (digits_cls _).mono ?_
    rintro e wa2 ⟨v2, rfl, c2, b2⟩
    obtain ⟨f2, caps2, rfl, hf2, hcl2⟩ := c2
    have HW2 := Lib.hid hf2
    have HL2 := hcl2 (s[at_].toNat : Nat) wa2 (Below.refl _ _)
    rw [show dgt (s[at_].toNat : Int) = true from L2.out] at HL2
    have HK2 := Lib.hid HL2
    have BB := Lib.hid (BB.out.trans (b2.mono BB.out.size))
    clear hf2 hcl2 b2 HL2
    go_wp2_with ((refine wpList_call_slot_if (o := ⟨some 41, _, _, _, _, _⟩) (by rfl) 39 _ _ rfl f2 caps2 rfl HW2.out (#[.int .i32 (s[at_].toNat : Nat)] ++ caps2) ?cx2 ?_; (case cx2 => simp [go_sem]); refine HK2.out.mono ?_; rintro e wb2 ⟨rfl, hs2⟩; refine ⟨_, rfl, ?_⟩; simp only [Act.put, List.setIfInBounds_toArray, List.set_cons_succ, List.set_cons_zero]; have BB := Lib.hid (BB.out.trans (hs2.mono BB.out.size)); clear hs2))
    refine (digits_cls _).mono ?_
    rintro e wc3 ⟨x3, rfl, c3, b3⟩
    have hc3 := c3
    obtain ⟨g3, caps3, rfl⟩ := hc3.form
    have BB := Lib.hid (BB.out.trans (b3.mono BB.out.size))
    have CC := Lib.hid c3
    clear c3 b3 hc3
    go_wp2_with fail
    refine (SS.out _ _ CC.out).mono ?_
    rintro e wd3 ⟨rfl, b3⟩
    have BB := Lib.hid (BB.out.trans (b3.mono BB.out.size))
    clear b3
    go_wp2_with fail
    refine (RR.out _).mono ?_
    rintro e w9 ⟨rfl, b9⟩
    have BB := Lib.hid (BB.out.trans (b9.mono BB.out.size))
    clear b9
    have ⟨⟨q1, q2, q3, q4⟩, ⟨f1, f2, f3, f4⟩⟩ := tok0_facts BB.out
    go_wp2
    refine bodyPost_ret (v := .tuple #[tokV ⟨0, ⟨#[]⟩, 0, 0⟩, .int .i64 0, .int .i64 31]) (by simp [results, Tryz.results25, go_sem, tokV, q1, q2, q3, q4]) rfl ⟨ret_tres EE.out, ?_⟩
    exact ((((tok0_below BB.out).setCell (Nat.le_refl _) _).setCell (Nat.le_refl _) _).setCell (Nat.le_refl _) _).setCell (Nat.le_refl _) _
  | some v =>
    rw [hq] at R E
    have RR := Lib.hid R
    have EE := Lib.hid E
    clear R E hq
    simp only [numV] at RR EE
    go_enter Tryz.func25, Tryz.ntmps25
    go_wp2_with fail
    refine (letters_any _).mono ?_
    rintro e wa1 ⟨v1, rfl, c1, b1⟩
    obtain ⟨f1, caps1, rfl, hf1, hcl1⟩ := c1
    have HW1 := Lib.hid hf1
    have HL1 := hcl1 (s[at_].toNat : Nat) wa1 (Below.refl _ _)
    rw [show ltr (s[at_].toNat : Int) = false from L1.out] at HL1
    have HK1 := Lib.hid HL1
    have BB : Hid (Below (tok0 w).heap.size (tok0 w) wa1) := Lib.hid b1
    clear hf1 hcl1 b1 HL1
    go_wp2_with ((refine wpList_call_slot (o := ⟨some 23, _, _, _, _, _⟩) rfl 21 _ _ rfl f1 caps1 rfl HW1.out (#[.int .i32 (s[at_].toNat : Nat)] ++ caps1) ?cx1 ?_; (case cx1 => simp [go_sem]); refine HK1.out.mono ?_; rintro e wb1 ⟨rfl, hs1⟩; refine ⟨_, rfl, ?_⟩; simp only [Act.put, List.setIfInBounds_toArray, List.set_cons_succ, List.set_cons_zero]; have BB := Lib.hid (BB.out.trans (hs1.mono BB.out.size)); clear hs1))
    go_wp2_with fail
    refine (digits_cls _).mono ?_
    rintro e wa2 ⟨v2, rfl, c2, b2⟩
    obtain ⟨f2, caps2, rfl, hf2, hcl2⟩ := c2
    have HW2 := Lib.hid hf2
    have HL2 := hcl2 (s[at_].toNat : Nat) wa2 (Below.refl _ _)
    rw [show dgt (s[at_].toNat : Int) = true from L2.out] at HL2
    have HK2 := Lib.hid HL2
    have BB := Lib.hid (BB.out.trans (b2.mono BB.out.size))
    clear hf2 hcl2 b2 HL2
    go_wp2_with ((refine wpList_call_slot_if (o := ⟨some 41, _, _, _, _, _⟩) (by rfl) 39 _ _ rfl f2 caps2 rfl HW2.out (#[.int .i32 (s[at_].toNat : Nat)] ++ caps2) ?cx2 ?_; (case cx2 => simp [go_sem]); refine HK2.out.mono ?_; rintro e wb2 ⟨rfl, hs2⟩; refine ⟨_, rfl, ?_⟩; simp only [Act.put, List.setIfInBounds_toArray, List.set_cons_succ, List.set_cons_zero]; have BB := Lib.hid (BB.out.trans (hs2.mono BB.out.size)); clear hs2))
    refine (digits_cls _).mono ?_
    rintro e wc3 ⟨x3, rfl, c3, b3⟩
    have hc3 := c3
    obtain ⟨g3, caps3, rfl⟩ := hc3.form
    have BB := Lib.hid (BB.out.trans (b3.mono BB.out.size))
    have CC := Lib.hid c3
    clear c3 b3 hc3
    go_wp2_with fail
    refine (SS.out _ _ CC.out).mono ?_
    rintro e wd3 ⟨rfl, b3⟩
    have BB := Lib.hid (BB.out.trans (b3.mono BB.out.size))
    clear b3
    go_wp2_with fail
    refine (RR.out _).mono ?_
    rintro e w9 ⟨rfl, b9⟩
    have BB := Lib.hid (BB.out.trans (b9.mono BB.out.size))
    clear b9
    have ⟨⟨q1, q2, q3, q4⟩, ⟨f1, f2, f3, f4⟩⟩ := tok0_facts BB.out
    go_wp2
    refine bodyPost_ret (v := .tuple #[tokV ⟨3, ⟨#[]⟩, v, 0⟩, .int .i64 m, .int .i64 0]) (by simp [results, Tryz.results25, go_sem, tokV, q1, q2, q3, q4]) rfl ⟨ret_tres EE.out, ?_⟩
    exact ((((tok0_below BB.out).setCell (Nat.le_refl _) _).setCell (Nat.le_refl _) _).setCell (Nat.le_refl _) _).setCell (Nat.le_refl _) _
set_option maxRecDepth 100000 in
set_option maxHeartbeats 1000000 in
theorem token_txt (s : ByteArray) (at_ : Nat) (w : World) (hat : at_ < s.size) (hs : s.size ≤ 100000000) (hc : iv s[at_] = 34) :
    Calls Tryz.prog 25 #[.string s, .int .i64 at_] w (TRes (oneV at_ (one (s.data.toList.drop at_))) w) := by
  have hb : (s[at_].toNat : Int) ≤ 255 := by have := s[at_].toNat_lt; omega
  have h1 : ltr (iv s[at_]) = false := by rw [hc]; rfl
  have h2 : dgt (iv s[at_]) = false := by rw [hc]; rfl
  have t1 : ((s[at_].toNat : Int) == 126) = false := test_iv' (by omega)
  have t2 := test_iv hc
  have E := tok_txt s at_ hat hc
  have C := fun W => literal_any s at_ W hat hs
  generalize litV at_ (str (s.data.toList.drop (at_ + 1))) = x at *
  obtain ⟨xt, xe, xb⟩ := x
  have L1 := Lib.hid h1
  have L2 := Lib.hid h2
  have CC := Lib.hid C
  clear h1 h2 hc C
  cases xb with
  | true =>
    have EE := Lib.hid E
    clear E
    simp only [if_true] at EE
    go_enter Tryz.func25, Tryz.ntmps25
    go_wp2_with fail
    refine (letters_any _).mono ?_
    rintro e wa1 ⟨v1, rfl, c1, b1⟩
    obtain ⟨f1, caps1, rfl, hf1, hcl1⟩ := c1
    have HW1 := Lib.hid hf1
    have HL1 := hcl1 (s[at_].toNat : Nat) wa1 (Below.refl _ _)
    rw [show ltr (s[at_].toNat : Int) = false from L1.out] at HL1
    have HK1 := Lib.hid HL1
    have BB : Hid (Below (tok0 w).heap.size (tok0 w) wa1) := Lib.hid b1
    clear hf1 hcl1 b1 HL1
    go_wp2_with ((refine wpList_call_slot (o := ⟨some 23, _, _, _, _, _⟩) rfl 21 _ _ rfl f1 caps1 rfl HW1.out (#[.int .i32 (s[at_].toNat : Nat)] ++ caps1) ?cx1 ?_; (case cx1 => simp [go_sem]); refine HK1.out.mono ?_; rintro e wb1 ⟨rfl, hs1⟩; refine ⟨_, rfl, ?_⟩; simp only [Act.put, List.setIfInBounds_toArray, List.set_cons_succ, List.set_cons_zero]; have BB := Lib.hid (BB.out.trans (hs1.mono BB.out.size)); clear hs1))
    go_wp2_with fail
    refine (digits_cls _).mono ?_
    rintro e wa2 ⟨v2, rfl, c2, b2⟩
    obtain ⟨f2, caps2, rfl, hf2, hcl2⟩ := c2
    have HW2 := Lib.hid hf2
    have HL2 := hcl2 (s[at_].toNat : Nat) wa2 (Below.refl _ _)
    rw [show dgt (s[at_].toNat : Int) = false from L2.out] at HL2
    have HK2 := Lib.hid HL2
    have BB := Lib.hid (BB.out.trans (b2.mono BB.out.size))
    clear hf2 hcl2 b2 HL2
    go_wp2_with ((refine wpList_call_slot_if (o := ⟨some 41, _, _, _, _, _⟩) (by rfl) 39 _ _ rfl f2 caps2 rfl HW2.out (#[.int .i32 (s[at_].toNat : Nat)] ++ caps2) ?cx2 ?_; (case cx2 => simp [go_sem]); refine HK2.out.mono ?_; rintro e wb2 ⟨rfl, hs2⟩; refine ⟨_, rfl, ?_⟩; simp only [Act.put, List.setIfInBounds_toArray, List.set_cons_succ, List.set_cons_zero]; have BB := Lib.hid (BB.out.trans (hs2.mono BB.out.size)); clear hs2))
    refine (CC.out _).mono ?_
    rintro e w9 ⟨rfl, b9⟩
    have BB := Lib.hid (BB.out.trans (b9.mono BB.out.size))
    clear b9
    have ⟨⟨q1, q2, q3, q4⟩, ⟨f1, f2, f3, f4⟩⟩ := tok0_facts BB.out
    go_wp2
    refine bodyPost_ret (v := .tuple #[tokV ⟨4, xt, 0, 0⟩, .int .i64 xe, .int .i64 0]) (by simp [results, Tryz.results25, go_sem, tokV, q1, q2, q3, q4]) rfl ⟨ret_tres EE.out, ?_⟩
    exact ((((tok0_below BB.out).setCell (Nat.le_refl _) _).setCell (Nat.le_refl _) _).setCell (Nat.le_refl _) _).setCell (Nat.le_refl _) _
  | false =>
    have EE := Lib.hid E
    clear E
    simp only [if_false, Bool.false_eq_true] at EE
    go_enter Tryz.func25, Tryz.ntmps25
    go_wp2_with fail
    refine (letters_any _).mono ?_
    rintro e wa1 ⟨v1, rfl, c1, b1⟩
    obtain ⟨f1, caps1, rfl, hf1, hcl1⟩ := c1
    have HW1 := Lib.hid hf1
    have HL1 := hcl1 (s[at_].toNat : Nat) wa1 (Below.refl _ _)
    rw [show ltr (s[at_].toNat : Int) = false from L1.out] at HL1
    have HK1 := Lib.hid HL1
    have BB : Hid (Below (tok0 w).heap.size (tok0 w) wa1) := Lib.hid b1
    clear hf1 hcl1 b1 HL1
    go_wp2_with ((refine wpList_call_slot (o := ⟨some 23, _, _, _, _, _⟩) rfl 21 _ _ rfl f1 caps1 rfl HW1.out (#[.int .i32 (s[at_].toNat : Nat)] ++ caps1) ?cx1 ?_; (case cx1 => simp [go_sem]); refine HK1.out.mono ?_; rintro e wb1 ⟨rfl, hs1⟩; refine ⟨_, rfl, ?_⟩; simp only [Act.put, List.setIfInBounds_toArray, List.set_cons_succ, List.set_cons_zero]; have BB := Lib.hid (BB.out.trans (hs1.mono BB.out.size)); clear hs1))
    go_wp2_with fail
    refine (digits_cls _).mono ?_
    rintro e wa2 ⟨v2, rfl, c2, b2⟩
    obtain ⟨f2, caps2, rfl, hf2, hcl2⟩ := c2
    have HW2 := Lib.hid hf2
    have HL2 := hcl2 (s[at_].toNat : Nat) wa2 (Below.refl _ _)
    rw [show dgt (s[at_].toNat : Int) = false from L2.out] at HL2
    have HK2 := Lib.hid HL2
    have BB := Lib.hid (BB.out.trans (b2.mono BB.out.size))
    clear hf2 hcl2 b2 HL2
    go_wp2_with ((refine wpList_call_slot_if (o := ⟨some 41, _, _, _, _, _⟩) (by rfl) 39 _ _ rfl f2 caps2 rfl HW2.out (#[.int .i32 (s[at_].toNat : Nat)] ++ caps2) ?cx2 ?_; (case cx2 => simp [go_sem]); refine HK2.out.mono ?_; rintro e wb2 ⟨rfl, hs2⟩; refine ⟨_, rfl, ?_⟩; simp only [Act.put, List.setIfInBounds_toArray, List.set_cons_succ, List.set_cons_zero]; have BB := Lib.hid (BB.out.trans (hs2.mono BB.out.size)); clear hs2))
    refine (CC.out _).mono ?_
    rintro e w9 ⟨rfl, b9⟩
    have BB := Lib.hid (BB.out.trans (b9.mono BB.out.size))
    clear b9
    have ⟨⟨q1, q2, q3, q4⟩, ⟨f1, f2, f3, f4⟩⟩ := tok0_facts BB.out
    go_wp2
    refine bodyPost_ret (v := .tuple #[tokV ⟨0, ⟨#[]⟩, 0, 0⟩, .int .i64 0, .int .i64 32]) (by simp [results, Tryz.results25, go_sem, tokV, q1, q2, q3, q4]) rfl ⟨ret_tres EE.out, ?_⟩
    exact ((((tok0_below BB.out).setCell (Nat.le_refl _) _).setCell (Nat.le_refl _) _).setCell (Nat.le_refl _) _).setCell (Nat.le_refl _) _
set_option maxRecDepth 100000 in
set_option maxHeartbeats 1000000 in
theorem token_opr (s : ByteArray) (at_ : Nat) (w : World) (hat : at_ < s.size) (hs : s.size ≤ 100000000) (hc : opr (iv s[at_]) = true) :
    Calls Tryz.prog 25 #[.string s, .int .i64 at_] w (TRes (oneV at_ (one (s.data.toList.drop at_))) w) := by
  have hb : (s[at_].toNat : Int) ≤ 255 := by have := s[at_].toNat_lt; omega
  obtain ⟨h1, h2, h3, _⟩ := cls_opr hc
  have h4 : dgt (iv s[at_]) = false := by simpa using fun g => h2 (.inr g)
  have t1 : ((s[at_].toNat : Int) == 126) = false := test_iv' (fun g => h2 (.inl g))
  have t2 := test_iv' h3
  have E := tok_opr s at_ hat hc _ rfl
  have hn := run_fits opr s at_ hat
  have hm : at_ + 1 ≤ at_ + 1 + run opr (s.data.toList.drop (at_ + 1)) := Nat.le_add_right _ _
  have S := fun v W (hv : Cls W v opr) => span_any s (at_ + 1) v opr W (by omega) (by omega) opr_wide hv
  generalize hdd : s.extract at_ (at_ + 1 + run opr (s.data.toList.drop (at_ + 1))) = d at *
  generalize at_ + 1 + run opr (s.data.toList.drop (at_ + 1)) = m at *
  have SS := Lib.hid S
  have hcut := cut_run s at_ m (by omega) hn d hdd
  clear S hdd
  have N := fun W => keyOr_any 5 d W
  generalize (if key d.data.toList = true then (6 : Int) else 5) = kd at *
  have NN := Lib.hid N
  have EE := Lib.hid E
  have L1 := Lib.hid h1
  have L2 := Lib.hid h4
  have L3 := Lib.hid hc
  clear N E h1 h2 h3 h4 hc
  go_enter Tryz.func25, Tryz.ntmps25
  go_wp2_with fail
  refine (letters_any _).mono ?_
  rintro e wa1 ⟨v1, rfl, c1, b1⟩
  obtain ⟨f1, caps1, rfl, hf1, hcl1⟩ := c1
  have HW1 := Lib.hid hf1
  have HL1 := hcl1 (s[at_].toNat : Nat) wa1 (Below.refl _ _)
  rw [show ltr (s[at_].toNat : Int) = false from L1.out] at HL1
  have HK1 := Lib.hid HL1
  have BB : Hid (Below (tok0 w).heap.size (tok0 w) wa1) := Lib.hid b1
  clear hf1 hcl1 b1 HL1
  go_wp2_with ((refine wpList_call_slot (o := ⟨some 23, _, _, _, _, _⟩) rfl 21 _ _ rfl f1 caps1 rfl HW1.out (#[.int .i32 (s[at_].toNat : Nat)] ++ caps1) ?cx1 ?_; (case cx1 => simp [go_sem]); refine HK1.out.mono ?_; rintro e wb1 ⟨rfl, hs1⟩; refine ⟨_, rfl, ?_⟩; simp only [Act.put, List.setIfInBounds_toArray, List.set_cons_succ, List.set_cons_zero]; have BB := Lib.hid (BB.out.trans (hs1.mono BB.out.size)); clear hs1))
  go_wp2_with fail
  refine (digits_cls _).mono ?_
  rintro e wa2 ⟨v2, rfl, c2, b2⟩
  obtain ⟨f2, caps2, rfl, hf2, hcl2⟩ := c2
  have HW2 := Lib.hid hf2
  have HL2 := hcl2 (s[at_].toNat : Nat) wa2 (Below.refl _ _)
  rw [show dgt (s[at_].toNat : Int) = false from L2.out] at HL2
  have HK2 := Lib.hid HL2
  have BB := Lib.hid (BB.out.trans (b2.mono BB.out.size))
  clear hf2 hcl2 b2 HL2
  go_wp2_with ((refine wpList_call_slot_if (o := ⟨some 41, _, _, _, _, _⟩) (by rfl) 39 _ _ rfl f2 caps2 rfl HW2.out (#[.int .i32 (s[at_].toNat : Nat)] ++ caps2) ?cx2 ?_; (case cx2 => simp [go_sem]); refine HK2.out.mono ?_; rintro e wb2 ⟨rfl, hs2⟩; refine ⟨_, rfl, ?_⟩; simp only [Act.put, List.setIfInBounds_toArray, List.set_cons_succ, List.set_cons_zero]; have BB := Lib.hid (BB.out.trans (hs2.mono BB.out.size)); clear hs2))
  go_wp2_with fail
  refine (operators_any _).mono ?_
  rintro e wa3 ⟨v3, rfl, c3, b3⟩
  obtain ⟨f3, caps3, rfl, hf3, hcl3⟩ := c3
  have HW3 := Lib.hid hf3
  have HL3 := hcl3 (s[at_].toNat : Nat) wa3 (Below.refl _ _)
  rw [show opr (s[at_].toNat : Int) = true from L3.out] at HL3
  have HK3 := Lib.hid HL3
  have BB := Lib.hid (BB.out.trans (b3.mono BB.out.size))
  clear hf3 hcl3 b3 HL3
  go_wp2_with ((refine wpList_call_slot (o := ⟨some 81, _, _, _, _, _⟩) rfl 79 _ _ rfl f3 caps3 rfl HW3.out (#[.int .i32 (s[at_].toNat : Nat)] ++ caps3) ?cx3 ?_; (case cx3 => simp [go_sem]); refine HK3.out.mono ?_; rintro e wb3 ⟨rfl, hs3⟩; refine ⟨_, rfl, ?_⟩; simp only [Act.put, List.setIfInBounds_toArray, List.set_cons_succ, List.set_cons_zero]; have BB := Lib.hid (BB.out.trans (hs3.mono BB.out.size)); clear hs3))
  refine (operators_any _).mono ?_
  rintro e wc4 ⟨x4, rfl, c4, b4⟩
  have hc4 := c4
  obtain ⟨g4, caps4, rfl⟩ := hc4.form
  have BB := Lib.hid (BB.out.trans (b4.mono BB.out.size))
  have CC := Lib.hid c4
  clear c4 b4 hc4
  go_wp2_with fail
  refine (SS.out _ _ CC.out).mono ?_
  rintro e wd4 ⟨rfl, b4⟩
  have BB := Lib.hid (BB.out.trans (b4.mono BB.out.size))
  clear b4
  go_wp2_with fail
  refine (NN.out _).mono ?_
  rintro e w9 ⟨rfl, b9⟩
  have BB := Lib.hid (BB.out.trans (b9.mono BB.out.size))
  unfold tokV
  clear b9
  have ⟨⟨q1, q2, q3, q4⟩, ⟨f1, f2, f3, f4⟩⟩ := tok0_facts BB.out
  go_wp2
  refine bodyPost_ret (v := .tuple #[tokV ⟨kd, d, 0, 0⟩, .int .i64 m, .int .i64 0]) (by simp [results, Tryz.results25, go_sem, tokV, q1, q2, q3, q4]) rfl ⟨ret_tres EE.out, ?_⟩
  exact ((((tok0_below BB.out).setCell (Nat.le_refl _) _).setCell (Nat.le_refl _) _).setCell (Nat.le_refl _) _).setCell (Nat.le_refl _) _
end Go.Proofs.YtggjckalmlploaaGreatDoor.Lx
