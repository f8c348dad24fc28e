/- Texts of this seat, one behind the other: LxTokenAny. -/
import Derived.Test.YtggjckalmlploaaGreatDoorKn15
import Derived.Deep.DeepCutAuto
/- The contract of token, the signs, and all of it. -/
set_option maxRecDepth 100000
namespace Go.Proofs.YtggjckalmlploaaGreatDoor.Lx
open Go.RowKit Go.Proofs.LexMath

set_option maxRecDepth 100000 in
set_option maxHeartbeats 1000000 in
theorem token_40 (s : ByteArray) (at_ : Nat) (w : World) (hat : at_ < s.size) (hs : s.size ≤ 100000000) (hc : iv s[at_] = 40) :
    Calls Tryz.prog 25 #[.string s, .int .i64 at_] w (TRes (oneV at_ (one (s.data.toList.drop at_))) w) := by
  have hb : (s[at_].toNat : Int) ≤ 255 := by have := s[at_].toNat_lt; omega
  have L1 : Hid (ltr (iv s[at_]) = false) := Lib.hid (by rw [hc]; rfl)
  have L2 : Hid (dgt (iv s[at_]) = false) := Lib.hid (by rw [hc]; rfl)
  have L3 : Hid (opr (iv s[at_]) = false) := Lib.hid (by rw [hc]; rfl)
  have t1 : ((s[at_].toNat : Int) == 126) = false := test_iv' (by omega)
  have t2 : ((s[at_].toNat : Int) == 34) = false := test_iv' (by omega)
  have t3 := test_iv hc
  have EE := Lib.hid (tok_sign s at_ hat (by omega) _ rfl).1
  generalize hdd : s.extract at_ (at_ + 1) = d at *
  have hcut := cut_run s at_ (at_ + 1) (by omega) (by omega) d hdd
  rw [show ((at_ + 1 : Nat) : Int) = (at_ : Int) + 1 from Int.natCast_add _ _] at hcut
  clear hc hdd
  go_enter Tryz.func25, Tryz.ntmps25
  go_wp2_with fail
  refine (letters_any _).mono ?_
  rintro e wa1 ⟨v1, rfl, c1, b1⟩
  obtain ⟨f1, caps1, rfl, hf1, hcl1⟩ := c1
  have HW1 := Lib.hid hf1
  have HL1 := hcl1 (s[at_].toNat : Nat) wa1 (Below.refl _ _)
  rw [show ltr (s[at_].toNat : Int) = false from L1.out] at HL1
  have HK1 := Lib.hid HL1
  have BB : Hid (Below (tok0 w).heap.size (tok0 w) wa1) := Lib.hid b1
  clear hf1 hcl1 b1 HL1
  go_wp2_with ((refine wpList_call_slot (o := ⟨some 23, _, _, _, _, _⟩) rfl 21 _ _ rfl f1 caps1 rfl HW1.out (#[.int .i32 (s[at_].toNat : Nat)] ++ caps1) ?cx1 ?_; (case cx1 => simp [go_sem]); refine HK1.out.mono ?_; rintro e wb1 ⟨rfl, hs1⟩; refine ⟨_, rfl, ?_⟩; simp only [Act.put, List.setIfInBounds_toArray, List.set_cons_succ, List.set_cons_zero]; have BB := Lib.hid (BB.out.trans (hs1.mono BB.out.size)); clear hs1))
  go_wp2_with fail
  refine (digits_cls _).mono ?_
  rintro e wa2 ⟨v2, rfl, c2, b2⟩
  obtain ⟨f2, caps2, rfl, hf2, hcl2⟩ := c2
  have HW2 := Lib.hid hf2
  have HL2 := hcl2 (s[at_].toNat : Nat) wa2 (Below.refl _ _)
  rw [show dgt (s[at_].toNat : Int) = false from L2.out] at HL2
  have HK2 := Lib.hid HL2
  have BB := Lib.hid (BB.out.trans (b2.mono BB.out.size))
  clear hf2 hcl2 b2 HL2
  go_wp2_with ((refine wpList_call_slot_if (o := ⟨some 41, _, _, _, _, _⟩) (by rfl) 39 _ _ rfl f2 caps2 rfl HW2.out (#[.int .i32 (s[at_].toNat : Nat)] ++ caps2) ?cx2 ?_; (case cx2 => simp [go_sem]); refine HK2.out.mono ?_; rintro e wb2 ⟨rfl, hs2⟩; refine ⟨_, rfl, ?_⟩; simp only [Act.put, List.setIfInBounds_toArray, List.set_cons_succ, List.set_cons_zero]; have BB := Lib.hid (BB.out.trans (hs2.mono BB.out.size)); clear hs2))
  go_wp2_with fail
  refine (operators_any _).mono ?_
  rintro e wa3 ⟨v3, rfl, c3, b3⟩
  obtain ⟨f3, caps3, rfl, hf3, hcl3⟩ := c3
  have HW3 := Lib.hid hf3
  have HL3 := hcl3 (s[at_].toNat : Nat) wa3 (Below.refl _ _)
  rw [show opr (s[at_].toNat : Int) = false from L3.out] at HL3
  have HK3 := Lib.hid HL3
  have BB := Lib.hid (BB.out.trans (b3.mono BB.out.size))
  clear hf3 hcl3 b3 HL3
  go_upto_region 19 with ((refine wpList_call_slot (o := ⟨some 81, _, _, _, _, _⟩) rfl 79 _ _ rfl f3 caps3 rfl HW3.out (#[.int .i32 (s[at_].toNat : Nat)] ++ caps3) ?cx3 ?_; (case cx3 => simp [go_sem]); refine HK3.out.mono ?_; rintro e wb3 ⟨rfl, hs3⟩; refine ⟨_, rfl, ?_⟩; simp only [Act.put, List.setIfInBounds_toArray, List.set_cons_succ, List.set_cons_zero]; have BB := Lib.hid (BB.out.trans (hs3.mono BB.out.size)); clear hs3))
  have ⟨⟨q1, q2, q3, q4⟩, ⟨f1, f2, f3, f4⟩⟩ := tok0_facts BB.out
  go_wp2
  refine bodyPost_ret (v := .tuple #[tokV ⟨6, d, 0, 0⟩, .int .i64 ((at_ + 1 : Nat) : Int), .int .i64 0]) (by simp [results, Tryz.results25, go_sem, tokV, q1, q2, q3, q4]) rfl ⟨ret_tres EE.out, ?_⟩
  exact ((((tok0_below BB.out).setCell (Nat.le_refl _) _).setCell (Nat.le_refl _) _).setCell (Nat.le_refl _) _).setCell (Nat.le_refl _) _
set_option maxRecDepth 100000 in
set_option maxHeartbeats 1000000 in
theorem token_41 (s : ByteArray) (at_ : Nat) (w : World) (hat : at_ < s.size) (hs : s.size ≤ 100000000) (hc : iv s[at_] = 41) :
    Calls Tryz.prog 25 #[.string s, .int .i64 at_] w (TRes (oneV at_ (one (s.data.toList.drop at_))) w) := by
  have hb : (s[at_].toNat : Int) ≤ 255 := by have := s[at_].toNat_lt; omega
  have L1 : Hid (ltr (iv s[at_]) = false) := Lib.hid (by rw [hc]; rfl)
  have L2 : Hid (dgt (iv s[at_]) = false) := Lib.hid (by rw [hc]; rfl)
  have L3 : Hid (opr (iv s[at_]) = false) := Lib.hid (by rw [hc]; rfl)
  have t1 : ((s[at_].toNat : Int) == 126) = false := test_iv' (by omega)
  have t2 : ((s[at_].toNat : Int) == 34) = false := test_iv' (by omega)
  have t3 : ((s[at_].toNat : Int) == 40) = false := test_iv' (by omega)
  have t4 := test_iv hc
  have EE := Lib.hid (tok_sign s at_ hat (by omega) _ rfl).1
  generalize hdd : s.extract at_ (at_ + 1) = d at *
  have hcut := cut_run s at_ (at_ + 1) (by omega) (by omega) d hdd
  rw [show ((at_ + 1 : Nat) : Int) = (at_ : Int) + 1 from Int.natCast_add _ _] at hcut
  clear hc hdd
  go_enter Tryz.func25, Tryz.ntmps25
  go_wp2_with fail
  refine (letters_any _).mono ?_
  rintro e wa1 ⟨v1, rfl, c1, b1⟩
  obtain ⟨f1, caps1, rfl, hf1, hcl1⟩ := c1
  have HW1 := Lib.hid hf1
  have HL1 := hcl1 (s[at_].toNat : Nat) wa1 (Below.refl _ _)
  rw [show ltr (s[at_].toNat : Int) = false from L1.out] at HL1
  have HK1 := Lib.hid HL1
  have BB : Hid (Below (tok0 w).heap.size (tok0 w) wa1) := Lib.hid b1
  clear hf1 hcl1 b1 HL1
  go_wp2_with ((refine wpList_call_slot (o := ⟨some 23, _, _, _, _, _⟩) rfl 21 _ _ rfl f1 caps1 rfl HW1.out (#[.int .i32 (s[at_].toNat : Nat)] ++ caps1) ?cx1 ?_; (case cx1 => simp [go_sem]); refine HK1.out.mono ?_; rintro e wb1 ⟨rfl, hs1⟩; refine ⟨_, rfl, ?_⟩; simp only [Act.put, List.setIfInBounds_toArray, List.set_cons_succ, List.set_cons_zero]; have BB := Lib.hid (BB.out.trans (hs1.mono BB.out.size)); clear hs1))
  go_wp2_with fail
  refine (digits_cls _).mono ?_
  rintro e wa2 ⟨v2, rfl, c2, b2⟩
  obtain ⟨f2, caps2, rfl, hf2, hcl2⟩ := c2
  have HW2 := Lib.hid hf2
  have HL2 := hcl2 (s[at_].toNat : Nat) wa2 (Below.refl _ _)
  rw [show dgt (s[at_].toNat : Int) = false from L2.out] at HL2
  have HK2 := Lib.hid HL2
  have BB := Lib.hid (BB.out.trans (b2.mono BB.out.size))
  clear hf2 hcl2 b2 HL2
  go_wp2_with ((refine wpList_call_slot_if (o := ⟨some 41, _, _, _, _, _⟩) (by rfl) 39 _ _ rfl f2 caps2 rfl HW2.out (#[.int .i32 (s[at_].toNat : Nat)] ++ caps2) ?cx2 ?_; (case cx2 => simp [go_sem]); refine HK2.out.mono ?_; rintro e wb2 ⟨rfl, hs2⟩; refine ⟨_, rfl, ?_⟩; simp only [Act.put, List.setIfInBounds_toArray, List.set_cons_succ, List.set_cons_zero]; have BB := Lib.hid (BB.out.trans (hs2.mono BB.out.size)); clear hs2))
  go_wp2_with fail
  refine (operators_any _).mono ?_
  rintro e wa3 ⟨v3, rfl, c3, b3⟩
  obtain ⟨f3, caps3, rfl, hf3, hcl3⟩ := c3
  have HW3 := Lib.hid hf3
  have HL3 := hcl3 (s[at_].toNat : Nat) wa3 (Below.refl _ _)
  rw [show opr (s[at_].toNat : Int) = false from L3.out] at HL3
  have HK3 := Lib.hid HL3
  have BB := Lib.hid (BB.out.trans (b3.mono BB.out.size))
  clear hf3 hcl3 b3 HL3
  go_upto_region 19 with ((refine wpList_call_slot (o := ⟨some 81, _, _, _, _, _⟩) rfl 79 _ _ rfl f3 caps3 rfl HW3.out (#[.int .i32 (s[at_].toNat : Nat)] ++ caps3) ?cx3 ?_; (case cx3 => simp [go_sem]); refine HK3.out.mono ?_; rintro e wb3 ⟨rfl, hs3⟩; refine ⟨_, rfl, ?_⟩; simp only [Act.put, List.setIfInBounds_toArray, List.set_cons_succ, List.set_cons_zero]; have BB := Lib.hid (BB.out.trans (hs3.mono BB.out.size)); clear hs3))
  have ⟨⟨q1, q2, q3, q4⟩, ⟨f1, f2, f3, f4⟩⟩ := tok0_facts BB.out
  go_wp2
  refine bodyPost_ret (v := .tuple #[tokV ⟨6, d, 0, 0⟩, .int .i64 ((at_ + 1 : Nat) : Int), .int .i64 0]) (by simp [results, Tryz.results25, go_sem, tokV, q1, q2, q3, q4]) rfl ⟨ret_tres EE.out, ?_⟩
  exact ((((tok0_below BB.out).setCell (Nat.le_refl _) _).setCell (Nat.le_refl _) _).setCell (Nat.le_refl _) _).setCell (Nat.le_refl _) _
set_option maxRecDepth 100000 in
set_option maxHeartbeats 1000000 in
theorem token_95 (s : ByteArray) (at_ : Nat) (w : World) (hat : at_ < s.size) (hs : s.size ≤ 100000000) (hc : iv s[at_] = 95) :
    Calls Tryz.prog 25 #[.string s, .int .i64 at_] w (TRes (oneV at_ (one (s.data.toList.drop at_))) w) := by
  have hb : (s[at_].toNat : Int) ≤ 255 := by have := s[at_].toNat_lt; omega
  have L1 : Hid (ltr (iv s[at_]) = false) := Lib.hid (by rw [hc]; rfl)
  have L2 : Hid (dgt (iv s[at_]) = false) := Lib.hid (by rw [hc]; rfl)
  have L3 : Hid (opr (iv s[at_]) = false) := Lib.hid (by rw [hc]; rfl)
  have t1 : ((s[at_].toNat : Int) == 126) = false := test_iv' (by omega)
  have t2 : ((s[at_].toNat : Int) == 34) = false := test_iv' (by omega)
  have t3 : ((s[at_].toNat : Int) == 40) = false := test_iv' (by omega)
  have t4 : ((s[at_].toNat : Int) == 41) = false := test_iv' (by omega)
  have t5 := test_iv hc
  have EE := Lib.hid (tok_sign s at_ hat (by omega) _ rfl).1
  generalize hdd : s.extract at_ (at_ + 1) = d at *
  have hcut := cut_run s at_ (at_ + 1) (by omega) (by omega) d hdd
  rw [show ((at_ + 1 : Nat) : Int) = (at_ : Int) + 1 from Int.natCast_add _ _] at hcut
  clear hc hdd
  go_enter Tryz.func25, Tryz.ntmps25
  go_wp2_with fail
  refine (letters_any _).mono ?_
  rintro e wa1 ⟨v1, rfl, c1, b1⟩
  obtain ⟨f1, caps1, rfl, hf1, hcl1⟩ := c1
  have HW1 := Lib.hid hf1
  have HL1 := hcl1 (s[at_].toNat : Nat) wa1 (Below.refl _ _)
  rw [show ltr (s[at_].toNat : Int) = false from L1.out] at HL1
  have HK1 := Lib.hid HL1
  have BB : Hid (Below (tok0 w).heap.size (tok0 w) wa1) := Lib.hid b1
  clear hf1 hcl1 b1 HL1
  go_wp2_with ((refine wpList_call_slot (o := ⟨some 23, _, _, _, _, _⟩) rfl 21 _ _ rfl f1 caps1 rfl HW1.out (#[.int .i32 (s[at_].toNat : Nat)] ++ caps1) ?cx1 ?_; (case cx1 => simp [go_sem]); refine HK1.out.mono ?_; rintro e wb1 ⟨rfl, hs1⟩; refine ⟨_, rfl, ?_⟩; simp only [Act.put, List.setIfInBounds_toArray, List.set_cons_succ, List.set_cons_zero]; have BB := Lib.hid (BB.out.trans (hs1.mono BB.out.size)); clear hs1))
  go_wp2_with fail
  refine (digits_cls _).mono ?_
  rintro e wa2 ⟨v2, rfl, c2, b2⟩
  obtain ⟨f2, caps2, rfl, hf2, hcl2⟩ := c2
  have HW2 := Lib.hid hf2
  have HL2 := hcl2 (s[at_].toNat : Nat) wa2 (Below.refl _ _)
  rw [show dgt (s[at_].toNat : Int) = false from L2.out] at HL2
  have HK2 := Lib.hid HL2
  have BB := Lib.hid (BB.out.trans (b2.mono BB.out.size))
  clear hf2 hcl2 b2 HL2
  go_wp2_with ((refine wpList_call_slot_if (o := ⟨some 41, _, _, _, _, _⟩) (by rfl) 39 _ _ rfl f2 caps2 rfl HW2.out (#[.int .i32 (s[at_].toNat : Nat)] ++ caps2) ?cx2 ?_; (case cx2 => simp [go_sem]); refine HK2.out.mono ?_; rintro e wb2 ⟨rfl, hs2⟩; refine ⟨_, rfl, ?_⟩; simp only [Act.put, List.setIfInBounds_toArray, List.set_cons_succ, List.set_cons_zero]; have BB := Lib.hid (BB.out.trans (hs2.mono BB.out.size)); clear hs2))
  go_wp2_with fail
  refine (operators_any _).mono ?_
  rintro e wa3 ⟨v3, rfl, c3, b3⟩
  obtain ⟨f3, caps3, rfl, hf3, hcl3⟩ := c3
  have HW3 := Lib.hid hf3
  have HL3 := hcl3 (s[at_].toNat : Nat) wa3 (Below.refl _ _)
  rw [show opr (s[at_].toNat : Int) = false from L3.out] at HL3
  have HK3 := Lib.hid HL3
  have BB := Lib.hid (BB.out.trans (b3.mono BB.out.size))
  clear hf3 hcl3 b3 HL3
  go_upto_region 19 with ((refine wpList_call_slot (o := ⟨some 81, _, _, _, _, _⟩) rfl 79 _ _ rfl f3 caps3 rfl HW3.out (#[.int .i32 (s[at_].toNat : Nat)] ++ caps3) ?cx3 ?_; (case cx3 => simp [go_sem]); refine HK3.out.mono ?_; rintro e wb3 ⟨rfl, hs3⟩; refine ⟨_, rfl, ?_⟩; simp only [Act.put, List.setIfInBounds_toArray, List.set_cons_succ, List.set_cons_zero]; have BB := Lib.hid (BB.out.trans (hs3.mono BB.out.size)); clear hs3))
  have ⟨⟨q1, q2, q3, q4⟩, ⟨f1, f2, f3, f4⟩⟩ := tok0_facts BB.out
  go_wp2
  refine bodyPost_ret (v := .tuple #[tokV ⟨6, d, 0, 0⟩, .int .i64 ((at_ + 1 : Nat) : Int), .int .i64 0]) (by simp [results, Tryz.results25, go_sem, tokV, q1, q2, q3, q4]) rfl ⟨ret_tres EE.out, ?_⟩
  exact ((((tok0_below BB.out).setCell (Nat.le_refl _) _).setCell (Nat.le_refl _) _).setCell (Nat.le_refl _) _).setCell (Nat.le_refl _) _
set_option maxRecDepth 100000 in
set_option maxHeartbeats 1000000 in
theorem token_semi (s : ByteArray) (at_ : Nat) (w : World) (hat : at_ < s.size) (hs : s.size ≤ 100000000) (hc : iv s[at_] = 59) (hl : at_ + 1 < s.size) (hd : iv s[at_ + 1] = 59) :
    Calls Tryz.prog 25 #[.string s, .int .i64 at_] w (TRes (oneV at_ (one (s.data.toList.drop at_))) w) := by
  have hb : (s[at_].toNat : Int) ≤ 255 := by have := s[at_].toNat_lt; omega
  have L1 : Hid (ltr (iv s[at_]) = false) := Lib.hid (by rw [hc]; rfl)
  have L2 : Hid (dgt (iv s[at_]) = false) := Lib.hid (by rw [hc]; rfl)
  have L3 : Hid (opr (iv s[at_]) = false) := Lib.hid (by rw [hc]; rfl)
  have t1 : ((s[at_].toNat : Int) == 126) = false := test_iv' (by omega)
  have t2 : ((s[at_].toNat : Int) == 34) = false := test_iv' (by omega)
  have t3 : ((s[at_].toNat : Int) == 40) = false := test_iv' (by omega)
  have t4 : ((s[at_].toNat : Int) == 41) = false := test_iv' (by omega)
  have t5 : ((s[at_].toNat : Int) == 95) = false := test_iv' (by omega)
  have t6 := test_iv hc
  have t7 := test_iv hd
  have EE := Lib.hid (tok_semi s at_ hl hc hd)
  clear hc hd
  go_enter Tryz.func25, Tryz.ntmps25
  go_wp2_with fail
  refine (letters_any _).mono ?_
  rintro e wa1 ⟨v1, rfl, c1, b1⟩
  obtain ⟨f1, caps1, rfl, hf1, hcl1⟩ := c1
  have HW1 := Lib.hid hf1
  have HL1 := hcl1 (s[at_].toNat : Nat) wa1 (Below.refl _ _)
  rw [show ltr (s[at_].toNat : Int) = false from L1.out] at HL1
  have HK1 := Lib.hid HL1
  have BB : Hid (Below (tok0 w).heap.size (tok0 w) wa1) := Lib.hid b1
  clear hf1 hcl1 b1 HL1
  go_wp2_with ((refine wpList_call_slot (o := ⟨some 23, _, _, _, _, _⟩) rfl 21 _ _ rfl f1 caps1 rfl HW1.out (#[.int .i32 (s[at_].toNat : Nat)] ++ caps1) ?cx1 ?_; (case cx1 => simp [go_sem]); refine HK1.out.mono ?_; rintro e wb1 ⟨rfl, hs1⟩; refine ⟨_, rfl, ?_⟩; simp only [Act.put, List.setIfInBounds_toArray, List.set_cons_succ, List.set_cons_zero]; have BB := Lib.hid (BB.out.trans (hs1.mono BB.out.size)); clear hs1))
  go_wp2_with fail
  refine (digits_cls _).mono ?_
  rintro e wa2 ⟨v2, rfl, c2, b2⟩
  obtain ⟨f2, caps2, rfl, hf2, hcl2⟩ := c2
  have HW2 := Lib.hid hf2
  have HL2 := hcl2 (s[at_].toNat : Nat) wa2 (Below.refl _ _)
  rw [show dgt (s[at_].toNat : Int) = false from L2.out] at HL2
  have HK2 := Lib.hid HL2
  have BB := Lib.hid (BB.out.trans (b2.mono BB.out.size))
  clear hf2 hcl2 b2 HL2
  go_wp2_with ((refine wpList_call_slot_if (o := ⟨some 41, _, _, _, _, _⟩) (by rfl) 39 _ _ rfl f2 caps2 rfl HW2.out (#[.int .i32 (s[at_].toNat : Nat)] ++ caps2) ?cx2 ?_; (case cx2 => simp [go_sem]); refine HK2.out.mono ?_; rintro e wb2 ⟨rfl, hs2⟩; refine ⟨_, rfl, ?_⟩; simp only [Act.put, List.setIfInBounds_toArray, List.set_cons_succ, List.set_cons_zero]; have BB := Lib.hid (BB.out.trans (hs2.mono BB.out.size)); clear hs2))
  go_wp2_with fail
  refine (operators_any _).mono ?_
  rintro e wa3 ⟨v3, rfl, c3, b3⟩
  obtain ⟨f3, caps3, rfl, hf3, hcl3⟩ := c3
  have HW3 := Lib.hid hf3
  have HL3 := hcl3 (s[at_].toNat : Nat) wa3 (Below.refl _ _)
  rw [show opr (s[at_].toNat : Int) = false from L3.out] at HL3
  have HK3 := Lib.hid HL3
  have BB := Lib.hid (BB.out.trans (b3.mono BB.out.size))
  clear hf3 hcl3 b3 HL3
  go_upto_region 19 with ((refine wpList_call_slot (o := ⟨some 81, _, _, _, _, _⟩) rfl 79 _ _ rfl f3 caps3 rfl HW3.out (#[.int .i32 (s[at_].toNat : Nat)] ++ caps3) ?cx3 ?_; (case cx3 => simp [go_sem]); refine HK3.out.mono ?_; rintro e wb3 ⟨rfl, hs3⟩; refine ⟨_, rfl, ?_⟩; simp only [Act.put, List.setIfInBounds_toArray, List.set_cons_succ, List.set_cons_zero]; have BB := Lib.hid (BB.out.trans (hs3.mono BB.out.size)); clear hs3))
  have ⟨⟨q1, q2, q3, q4⟩, ⟨f1, f2, f3, f4⟩⟩ := tok0_facts BB.out
  go_wp2
  refine bodyPost_ret (v := .tuple #[tokV ⟨6, ⟨#[59, 59]⟩, 0, 0⟩, .int .i64 ((at_ + 2 : Nat) : Int), .int .i64 0]) (by simp [results, Tryz.results25, go_sem, tokV, q1, q2, q3, q4]) rfl ⟨ret_tres EE.out, ?_⟩
  exact ((((tok0_below BB.out).setCell (Nat.le_refl _) _).setCell (Nat.le_refl _) _).setCell (Nat.le_refl _) _).setCell (Nat.le_refl _) _
set_option maxRecDepth 100000 in
set_option maxHeartbeats 1000000 in
theorem token_semi_end (s : ByteArray) (at_ : Nat) (w : World) (hat : at_ < s.size) (hs : s.size ≤ 100000000) (hc : iv s[at_] = 59) (hl : ¬ at_ + 1 < s.size) :
    Calls Tryz.prog 25 #[.string s, .int .i64 at_] w (TRes (oneV at_ (one (s.data.toList.drop at_))) w) := by
  have hb : (s[at_].toNat : Int) ≤ 255 := by have := s[at_].toNat_lt; omega
  have L1 : Hid (ltr (iv s[at_]) = false) := Lib.hid (by rw [hc]; rfl)
  have L2 : Hid (dgt (iv s[at_]) = false) := Lib.hid (by rw [hc]; rfl)
  have L3 : Hid (opr (iv s[at_]) = false) := Lib.hid (by rw [hc]; rfl)
  have t1 : ((s[at_].toNat : Int) == 126) = false := test_iv' (by omega)
  have t2 : ((s[at_].toNat : Int) == 34) = false := test_iv' (by omega)
  have t3 : ((s[at_].toNat : Int) == 40) = false := test_iv' (by omega)
  have t4 : ((s[at_].toNat : Int) == 41) = false := test_iv' (by omega)
  have t5 : ((s[at_].toNat : Int) == 95) = false := test_iv' (by omega)
  have t6 := test_iv hc
  have EE := Lib.hid (tok_no s at_ hat L1.out (by rw [hc]; decide) (by omega) L3.out (by omega) (fun g => absurd g hl))
  clear hc
  go_enter Tryz.func25, Tryz.ntmps25
  go_wp2_with fail
  refine (letters_any _).mono ?_
  rintro e wa1 ⟨v1, rfl, c1, b1⟩
  obtain ⟨f1, caps1, rfl, hf1, hcl1⟩ := c1
  have HW1 := Lib.hid hf1
  have HL1 := hcl1 (s[at_].toNat : Nat) wa1 (Below.refl _ _)
  rw [show ltr (s[at_].toNat : Int) = false from L1.out] at HL1
  have HK1 := Lib.hid HL1
  have BB : Hid (Below (tok0 w).heap.size (tok0 w) wa1) := Lib.hid b1
  clear hf1 hcl1 b1 HL1
  go_wp2_with ((refine wpList_call_slot (o := ⟨some 23, _, _, _, _, _⟩) rfl 21 _ _ rfl f1 caps1 rfl HW1.out (#[.int .i32 (s[at_].toNat : Nat)] ++ caps1) ?cx1 ?_; (case cx1 => simp [go_sem]); refine HK1.out.mono ?_; rintro e wb1 ⟨rfl, hs1⟩; refine ⟨_, rfl, ?_⟩; simp only [Act.put, List.setIfInBounds_toArray, List.set_cons_succ, List.set_cons_zero]; have BB := Lib.hid (BB.out.trans (hs1.mono BB.out.size)); clear hs1))
  go_wp2_with fail
  refine (digits_cls _).mono ?_
  rintro e wa2 ⟨v2, rfl, c2, b2⟩
  obtain ⟨f2, caps2, rfl, hf2, hcl2⟩ := c2
  have HW2 := Lib.hid hf2
  have HL2 := hcl2 (s[at_].toNat : Nat) wa2 (Below.refl _ _)
  rw [show dgt (s[at_].toNat : Int) = false from L2.out] at HL2
  have HK2 := Lib.hid HL2
  have BB := Lib.hid (BB.out.trans (b2.mono BB.out.size))
  clear hf2 hcl2 b2 HL2
  go_wp2_with ((refine wpList_call_slot_if (o := ⟨some 41, _, _, _, _, _⟩) (by rfl) 39 _ _ rfl f2 caps2 rfl HW2.out (#[.int .i32 (s[at_].toNat : Nat)] ++ caps2) ?cx2 ?_; (case cx2 => simp [go_sem]); refine HK2.out.mono ?_; rintro e wb2 ⟨rfl, hs2⟩; refine ⟨_, rfl, ?_⟩; simp only [Act.put, List.setIfInBounds_toArray, List.set_cons_succ, List.set_cons_zero]; have BB := Lib.hid (BB.out.trans (hs2.mono BB.out.size)); clear hs2))
  go_wp2_with fail
  refine (operators_any _).mono ?_
  rintro e wa3 ⟨v3, rfl, c3, b3⟩
  obtain ⟨f3, caps3, rfl, hf3, hcl3⟩ := c3
  have HW3 := Lib.hid hf3
  have HL3 := hcl3 (s[at_].toNat : Nat) wa3 (Below.refl _ _)
  rw [show opr (s[at_].toNat : Int) = false from L3.out] at HL3
  have HK3 := Lib.hid HL3
  have BB := Lib.hid (BB.out.trans (b3.mono BB.out.size))
  clear hf3 hcl3 b3 HL3
  go_upto_region 19 with ((refine wpList_call_slot (o := ⟨some 81, _, _, _, _, _⟩) rfl 79 _ _ rfl f3 caps3 rfl HW3.out (#[.int .i32 (s[at_].toNat : Nat)] ++ caps3) ?cx3 ?_; (case cx3 => simp [go_sem]); refine HK3.out.mono ?_; rintro e wb3 ⟨rfl, hs3⟩; refine ⟨_, rfl, ?_⟩; simp only [Act.put, List.setIfInBounds_toArray, List.set_cons_succ, List.set_cons_zero]; have BB := Lib.hid (BB.out.trans (hs3.mono BB.out.size)); clear hs3))
  have ⟨⟨q1, q2, q3, q4⟩, ⟨f1, f2, f3, f4⟩⟩ := tok0_facts BB.out
  go_wp2
  refine bodyPost_ret (v := .tuple #[tokV ⟨0, ⟨#[]⟩, 0, 0⟩, .int .i64 0, .int .i64 30]) (by simp [results, Tryz.results25, go_sem, tokV, q1, q2, q3, q4]) rfl ⟨ret_tres EE.out, ?_⟩
  exact ((((tok0_below BB.out).setCell (Nat.le_refl _) _).setCell (Nat.le_refl _) _).setCell (Nat.le_refl _) _).setCell (Nat.le_refl _) _
set_option maxRecDepth 100000 in
set_option maxHeartbeats 1000000 in
theorem token_semi_no (s : ByteArray) (at_ : Nat) (w : World) (hat : at_ < s.size) (hs : s.size ≤ 100000000) (hc : iv s[at_] = 59) (hl : at_ + 1 < s.size) (hd : ¬ iv s[at_ + 1] = 59) :
    Calls Tryz.prog 25 #[.string s, .int .i64 at_] w (TRes (oneV at_ (one (s.data.toList.drop at_))) w) := by
  have hb : (s[at_].toNat : Int) ≤ 255 := by have := s[at_].toNat_lt; omega
  have L1 : Hid (ltr (iv s[at_]) = false) := Lib.hid (by rw [hc]; rfl)
  have L2 : Hid (dgt (iv s[at_]) = false) := Lib.hid (by rw [hc]; rfl)
  have L3 : Hid (opr (iv s[at_]) = false) := Lib.hid (by rw [hc]; rfl)
  have t1 : ((s[at_].toNat : Int) == 126) = false := test_iv' (by omega)
  have t2 : ((s[at_].toNat : Int) == 34) = false := test_iv' (by omega)
  have t3 : ((s[at_].toNat : Int) == 40) = false := test_iv' (by omega)
  have t4 : ((s[at_].toNat : Int) == 41) = false := test_iv' (by omega)
  have t5 : ((s[at_].toNat : Int) == 95) = false := test_iv' (by omega)
  have t6 := test_iv hc
  have t7 := test_iv' hd
  have EE := Lib.hid (tok_no s at_ hat L1.out (by rw [hc]; decide) (by omega) L3.out (by omega) (fun _ _ => hd))
  clear hc hd
  go_enter Tryz.func25, Tryz.ntmps25
  go_wp2_with fail
  refine (letters_any _).mono ?_
  rintro e wa1 ⟨v1, rfl, c1, b1⟩
  obtain ⟨f1, caps1, rfl, hf1, hcl1⟩ := c1
  have HW1 := Lib.hid hf1
  have HL1 := hcl1 (s[at_].toNat : Nat) wa1 (Below.refl _ _)
  rw [show ltr (s[at_].toNat : Int) = false from L1.out] at HL1
  have HK1 := Lib.hid HL1
  have BB : Hid (Below (tok0 w).heap.size (tok0 w) wa1) := Lib.hid b1
  clear hf1 hcl1 b1 HL1
  go_wp2_with ((refine wpList_call_slot (o := ⟨some 23, _, _, _, _, _⟩) rfl 21 _ _ rfl f1 caps1 rfl HW1.out (#[.int .i32 (s[at_].toNat : Nat)] ++ caps1) ?cx1 ?_; (case cx1 => simp [go_sem]); refine HK1.out.mono ?_; rintro e wb1 ⟨rfl, hs1⟩; refine ⟨_, rfl, ?_⟩; simp only [Act.put, List.setIfInBounds_toArray, List.set_cons_succ, List.set_cons_zero]; have BB := Lib.hid (BB.out.trans (hs1.mono BB.out.size)); clear hs1))
  go_wp2_with fail
  refine (digits_cls _).mono ?_
  rintro e wa2 ⟨v2, rfl, c2, b2⟩
  obtain ⟨f2, caps2, rfl, hf2, hcl2⟩ := c2
  have HW2 := Lib.hid hf2
  have HL2 := hcl2 (s[at_].toNat : Nat) wa2 (Below.refl _ _)
  rw [show dgt (s[at_].toNat : Int) = false from L2.out] at HL2
  have HK2 := Lib.hid HL2
  have BB := Lib.hid (BB.out.trans (b2.mono BB.out.size))
  clear hf2 hcl2 b2 HL2
  go_wp2_with ((refine wpList_call_slot_if (o := ⟨some 41, _, _, _, _, _⟩) (by rfl) 39 _ _ rfl f2 caps2 rfl HW2.out (#[.int .i32 (s[at_].toNat : Nat)] ++ caps2) ?cx2 ?_; (case cx2 => simp [go_sem]); refine HK2.out.mono ?_; rintro e wb2 ⟨rfl, hs2⟩; refine ⟨_, rfl, ?_⟩; simp only [Act.put, List.setIfInBounds_toArray, List.set_cons_succ, List.set_cons_zero]; have BB := Lib.hid (BB.out.trans (hs2.mono BB.out.size)); clear hs2))
  go_wp2_with fail
  refine (operators_any _).mono ?_
  rintro e wa3 ⟨v3, rfl, c3, b3⟩
  obtain ⟨f3, caps3, rfl, hf3, hcl3⟩ := c3
  have HW3 := Lib.hid hf3
  have HL3 := hcl3 (s[at_].toNat : Nat) wa3 (Below.refl _ _)
  rw [show opr (s[at_].toNat : Int) = false from L3.out] at HL3
  have HK3 := Lib.hid HL3
  have BB := Lib.hid (BB.out.trans (b3.mono BB.out.size))
  clear hf3 hcl3 b3 HL3
  go_upto_region 19 with ((refine wpList_call_slot (o := ⟨some 81, _, _, _, _, _⟩) rfl 79 _ _ rfl f3 caps3 rfl HW3.out (#[.int .i32 (s[at_].toNat : Nat)] ++ caps3) ?cx3 ?_; (case cx3 => simp [go_sem]); refine HK3.out.mono ?_; rintro e wb3 ⟨rfl, hs3⟩; refine ⟨_, rfl, ?_⟩; simp only [Act.put, List.setIfInBounds_toArray, List.set_cons_succ, List.set_cons_zero]; have BB := Lib.hid (BB.out.trans (hs3.mono BB.out.size)); clear hs3))
  have ⟨⟨q1, q2, q3, q4⟩, ⟨f1, f2, f3, f4⟩⟩ := tok0_facts BB.out
  go_wp2
  refine bodyPost_ret (v := .tuple #[tokV ⟨0, ⟨#[]⟩, 0, 0⟩, .int .i64 0, .int .i64 30]) (by simp [results, Tryz.results25, go_sem, tokV, q1, q2, q3, q4]) rfl ⟨ret_tres EE.out, ?_⟩
  exact ((((tok0_below BB.out).setCell (Nat.le_refl _) _).setCell (Nat.le_refl _) _).setCell (Nat.le_refl _) _).setCell (Nat.le_refl _) _
set_option maxRecDepth 100000 in
set_option maxHeartbeats 1000000 in
theorem token_no (s : ByteArray) (at_ : Nat) (w : World) (hat : at_ < s.size) (_hs : s.size ≤ 100000000) (h1 : ltr (iv s[at_]) = false) (h2 : dgt (iv s[at_]) = false) (h3 : opr (iv s[at_]) = false) (h4 : ¬ (iv s[at_] = 126 ∨ iv s[at_] = 34 ∨ iv s[at_] = 40 ∨ iv s[at_] = 41 ∨ iv s[at_] = 95 ∨ iv s[at_] = 59)) :
    Calls Tryz.prog 25 #[.string s, .int .i64 at_] w (TRes (oneV at_ (one (s.data.toList.drop at_))) w) := by
  have hb : (s[at_].toNat : Int) ≤ 255 := by have := s[at_].toNat_lt; omega
  have L1 := Lib.hid h1
  have L2 := Lib.hid h2
  have L3 := Lib.hid h3
  have t1 : ((s[at_].toNat : Int) == 126) = false := test_iv' (by omega)
  have t2 : ((s[at_].toNat : Int) == 34) = false := test_iv' (by omega)
  have t3 : ((s[at_].toNat : Int) == 40) = false := test_iv' (by omega)
  have t4 : ((s[at_].toNat : Int) == 41) = false := test_iv' (by omega)
  have t5 : ((s[at_].toNat : Int) == 95) = false := test_iv' (by omega)
  have t6 : ((s[at_].toNat : Int) == 59) = false := test_iv' (by omega)
  have EE := Lib.hid (tok_no s at_ hat h1 (by rw [h2]; simp; omega) (by omega) h3 (by omega) (fun _ g => by omega))
  clear h1 h2 h3 h4
  go_enter Tryz.func25, Tryz.ntmps25
  go_wp2_with fail
  refine (letters_any _).mono ?_
  rintro e wa1 ⟨v1, rfl, c1, b1⟩
  obtain ⟨f1, caps1, rfl, hf1, hcl1⟩ := c1
  have HW1 := Lib.hid hf1
  have HL1 := hcl1 (s[at_].toNat : Nat) wa1 (Below.refl _ _)
  rw [show ltr (s[at_].toNat : Int) = false from L1.out] at HL1
  have HK1 := Lib.hid HL1
  have BB : Hid (Below (tok0 w).heap.size (tok0 w) wa1) := Lib.hid b1
  clear hf1 hcl1 b1 HL1
  go_wp2_with ((refine wpList_call_slot (o := ⟨some 23, _, _, _, _, _⟩) rfl 21 _ _ rfl f1 caps1 rfl HW1.out (#[.int .i32 (s[at_].toNat : Nat)] ++ caps1) ?cx1 ?_; (case cx1 => simp [go_sem]); refine HK1.out.mono ?_; rintro e wb1 ⟨rfl, hs1⟩; refine ⟨_, rfl, ?_⟩; simp only [Act.put, List.setIfInBounds_toArray, List.set_cons_succ, List.set_cons_zero]; have BB := Lib.hid (BB.out.trans (hs1.mono BB.out.size)); clear hs1))
  go_wp2_with fail
  refine (digits_cls _).mono ?_
  rintro e wa2 ⟨v2, rfl, c2, b2⟩
  obtain ⟨f2, caps2, rfl, hf2, hcl2⟩ := c2
  have HW2 := Lib.hid hf2
  have HL2 := hcl2 (s[at_].toNat : Nat) wa2 (Below.refl _ _)
  rw [show dgt (s[at_].toNat : Int) = false from L2.out] at HL2
  have HK2 := Lib.hid HL2
  have BB := Lib.hid (BB.out.trans (b2.mono BB.out.size))
  clear hf2 hcl2 b2 HL2
  go_wp2_with ((refine wpList_call_slot_if (o := ⟨some 41, _, _, _, _, _⟩) (by rfl) 39 _ _ rfl f2 caps2 rfl HW2.out (#[.int .i32 (s[at_].toNat : Nat)] ++ caps2) ?cx2 ?_; (case cx2 => simp [go_sem]); refine HK2.out.mono ?_; rintro e wb2 ⟨rfl, hs2⟩; refine ⟨_, rfl, ?_⟩; simp only [Act.put, List.setIfInBounds_toArray, List.set_cons_succ, List.set_cons_zero]; have BB := Lib.hid (BB.out.trans (hs2.mono BB.out.size)); clear hs2))
  go_wp2_with fail
  refine (operators_any _).mono ?_
  rintro e wa3 ⟨v3, rfl, c3, b3⟩
  obtain ⟨f3, caps3, rfl, hf3, hcl3⟩ := c3
  have HW3 := Lib.hid hf3
  have HL3 := hcl3 (s[at_].toNat : Nat) wa3 (Below.refl _ _)
  rw [show opr (s[at_].toNat : Int) = false from L3.out] at HL3
  have HK3 := Lib.hid HL3
  have BB := Lib.hid (BB.out.trans (b3.mono BB.out.size))
  clear hf3 hcl3 b3 HL3
  go_upto_region 19 with ((refine wpList_call_slot (o := ⟨some 81, _, _, _, _, _⟩) rfl 79 _ _ rfl f3 caps3 rfl HW3.out (#[.int .i32 (s[at_].toNat : Nat)] ++ caps3) ?cx3 ?_; (case cx3 => simp [go_sem]); refine HK3.out.mono ?_; rintro e wb3 ⟨rfl, hs3⟩; refine ⟨_, rfl, ?_⟩; simp only [Act.put, List.setIfInBounds_toArray, List.set_cons_succ, List.set_cons_zero]; have BB := Lib.hid (BB.out.trans (hs3.mono BB.out.size)); clear hs3))
  have ⟨⟨q1, q2, q3, q4⟩, ⟨f1, f2, f3, f4⟩⟩ := tok0_facts BB.out
  go_wp2
  refine bodyPost_ret (v := .tuple #[tokV ⟨0, ⟨#[]⟩, 0, 0⟩, .int .i64 0, .int .i64 30]) (by simp [results, Tryz.results25, go_sem, tokV, q1, q2, q3, q4]) rfl ⟨ret_tres EE.out, ?_⟩
  exact ((((tok0_below BB.out).setCell (Nat.le_refl _) _).setCell (Nat.le_refl _) _).setCell (Nat.le_refl _) _).setCell (Nat.le_refl _) _
theorem token_any (s : ByteArray) (at_ : Nat) (w : World) (hat : at_ < s.size) (hs : s.size ≤ 100000000) :
    Calls Tryz.prog 25 #[.string s, .int .i64 at_] w (TRes (oneV at_ (one (s.data.toList.drop at_))) w) := by
  by_cases h1 : ltr (iv s[at_]) = true
  · exact token_ltr s at_ w hat hs h1
  · by_cases h2 : dgt (iv s[at_]) = true
    · exact token_digit s at_ w hat hs (by simpa using h1) h2
    · by_cases h3 : opr (iv s[at_]) = true
      · exact token_opr s at_ w hat hs h3
      · by_cases g1 : iv s[at_] = 126
        · exact token_tilde s at_ w hat hs g1
        · by_cases g2 : iv s[at_] = 34
          · exact token_txt s at_ w hat hs g2
          · by_cases g3 : iv s[at_] = 40
            · exact token_40 s at_ w hat hs g3
            · by_cases g4 : iv s[at_] = 41
              · exact token_41 s at_ w hat hs g4
              · by_cases g5 : iv s[at_] = 95
                · exact token_95 s at_ w hat hs g5
                · by_cases g6 : iv s[at_] = 59
                  · by_cases hl : at_ + 1 < s.size
                    · by_cases hd : iv s[at_ + 1] = 59
                      · exact token_semi s at_ w hat hs g6 hl hd
                      · exact token_semi_no s at_ w hat hs g6 hl hd
                    · exact token_semi_end s at_ w hat hs g6 hl
                  · exact token_no s at_ w hat hs (by simpa using h1) (by simpa using h2) (by simpa using h3) (by omega)
end Go.Proofs.YtggjckalmlploaaGreatDoor.Lx
