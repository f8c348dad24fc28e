/- What the chapter's example fixes. -/
import Derived.Test.YtkmgapieoedelaaFixW
namespace Go.Proofs.Ytkmgapieoedelaa
open Go.Shelf Go.RowKit Go.Lib Go.Sort Go.Proofs.FixMath

def sB : ByteArray := ⟨#[42]⟩
def pB : ByteArray := ⟨#[43]⟩
def exL : List Fx := [⟨sB, 7, -1⟩, ⟨pB, 6, -1⟩]
def exC : List Int := [2, 0, -1, 1, -2, -3, -4]
def exF : List Int := [-1, 0, -2, 1, -3, 2, -4]
def exS : List Fx := [⟨sB, 7, -1⟩, ⟨pB, 1, 0⟩]
theorem climb_ex : climbL rightF exL [pB, sB, pB] = (exC, 0) := by decide +kernel
theorem flat_ex : flatA exC = some exF := by decide +kernel
theorem set_ex : setL rightF exL ⟨pB, 1, 0⟩ = (exS, 0) := by decide +kernel
theorem find_ex : find exS pB = some ⟨pB, 1, 0⟩ := by decide +kernel
theorem check_ex : checkL rightF exL = 0 := by decide +kernel
theorem right_ex : rightF ⟨sB, 7, -1⟩ = true := by decide +kernel
theorem small_ex : Small exL := by
  intro f hf
  simp [exL] at hf
  rcases hf with rfl | rfl <;> decide
theorem lit_fix (w : World) (fs : List Fx) (cs : Array Value) (n : Nat) (hl : fs.length = n) (hc : cs.toList = fxCells fs) (hn : n ≤ 1000) : FixAt (w.alloc (.cells cs 24)) (.slice (some ⟨w.heap.size, 0, none⟩) n n) fs := by
  have hs : cs.size = n * 3 := by rw [← Array.length_toList, hc, length_fxCells, hl]
  have := SliceAt.of_owns (World.ownsRow_lit (base := 0) (e := 24) (size := 3) w cs n (Nat.zero_le _) (by unfold maxLen; omega) hs)
  rw [hc] at this
  unfold FixAt
  rw [hl]
  exact this
theorem lit_ints (w : World) (xs : List Int) (cs : Array Value) (n : Nat) (hl : xs.length = n) (hc : cs.toList = intCells xs) (hn : n ≤ 1000) : IntsAt (w.alloc (.cells cs 3)) (.slice (some ⟨w.heap.size, 0, none⟩) n n) xs := by
  have hs : cs.size = n * 1 := by rw [← Array.length_toList, hc, length_intCells, hl]
  have := SliceAt.of_owns (World.ownsRow_lit (base := 0) (e := 3) (size := 1) w cs n (Nat.zero_le _) (by unfold maxLen; omega) hs)
  rw [hc] at this
  unfold IntsAt
  rw [hl]
  exact this
theorem lit_strs (w : World) (xs : List ByteArray) (cs : Array Value) (n : Nat) (hl : xs.length = n) (hc : cs.toList = strCells xs) (hn : n ≤ 1000) : StrsAt (w.alloc (.cells cs 9)) (.slice (some ⟨w.heap.size, 0, none⟩) n n) xs := by
  have hs : cs.size = n * 1 := by rw [← Array.length_toList, hc, length_strCells, hl]
  have := SliceAt.of_owns (World.ownsRow_lit (base := 0) (e := 9) (size := 1) w cs n (Nat.zero_le _) (by unfold maxLen; omega) hs)
  rw [hc] at this
  unfold StrsAt
  rw [hl]
  exact this
set_option maxRecDepth 100000 in
set_option maxHeartbeats 4000000 in
theorem awake_any (w : World) : Calls Try.prog 10 #[] w (RB true w) := by
  have L1 := Lib.hid (lit_fix w exL #[.string sB, .int .i64 7, .int .i64 (-1), .string pB, .int .i64 6, .int .i64 (-1)] 2 rfl rfl (by omega))
  have B1 : Hid (Below w.heap.size w (w.alloc (.cells #[.string sB, .int .i64 7, .int .i64 (-1), .string pB, .int .i64 6, .int .i64 (-1)] 24))) := Lib.hid ((Below.refl _ _).alloc (Nat.le_refl _) _)
  go_enter Try.func10, Try.ntmps10
  go_wp2_with fail
  have B2 : Hid (Below w.heap.size w ((w.alloc (.cells #[.string sB, .int .i64 7, .int .i64 (-1), .string pB, .int .i64 6, .int .i64 (-1)] 24)).alloc (.cells #[.string pB, .string sB, .string pB] 9))) := Lib.hid (((Below.refl _ _).alloc (Nat.le_refl _) _).alloc (by simp) _)
  have S2 := lit_strs (w.alloc (.cells #[.string sB, .int .i64 7, .int .i64 (-1), .string pB, .int .i64 6, .int .i64 (-1)] 24)) [pB, sB, pB] #[.string pB, .string sB, .string pB] 3 rfl rfl (by omega)
  rw [show (w.alloc (.cells #[.string sB, .int .i64 7, .int .i64 (-1), .string pB, .int .i64 6, .int .i64 (-1)] 24)).heap.size = w.heap.size + 1 by simp] at S2
  have LL : FixAt ((w.alloc (.cells #[.string sB, .int .i64 7, .int .i64 (-1), .string pB, .int .i64 6, .int .i64 (-1)] 24)).alloc (.cells #[.string pB, .string sB, .string pB] 9)) (.slice (some ⟨w.heap.size, 0, none⟩) 2 2) exL := L1.out.below ((Below.refl _ _).alloc (Nat.le_refl _) _)
  have CA := climbs_any _ _ exL [pB, sB, pB] _ LL S2 (by decide) (by decide) small_ex
  rw [climb_ex] at CA
  refine CA.mono ?_
  rintro e w1 ⟨v1, rfl, i1, b1⟩
  obtain ⟨p1, k1, rfl⟩ := ints_form i1
  have F1 := Lib.hid (LL.below b1)
  have I1 := Lib.hid i1
  have BB1 := Lib.hid (B2.out.trans (b1.mono B2.out.size))
  clear CA S2 LL i1 b1
  simp only [exC, List.length_cons, List.length_nil]
  go_wp2_with fail
  have CB := flat_any _ exC w1 I1.out (by decide)
  rw [flat_ex] at CB
  refine CB.mono ?_
  rintro e w2 ⟨b2, v2, rfl, i2⟩
  obtain ⟨p2, k2, rfl⟩ := ints_form i2
  have F2 := Lib.hid (F1.out.below b2)
  have I2 := Lib.hid (I1.out.below b2)
  have J2 := Lib.hid i2
  have BB2 := Lib.hid (BB1.out.trans (b2.mono BB1.out.size))
  clear CB i2 b2
  simp only [exF, List.length_cons, List.length_nil]
  go_wp2_with fail
  have CC := set_any _ exL ⟨pB, 1, 0⟩ w2 F2.out (by decide) small_ex (by decide)
  rw [set_ex] at CC
  refine CC.mono ?_
  rintro e w3 ⟨v3, rfl, i3, b3⟩
  obtain ⟨p3, k3, rfl⟩ := fix_form i3
  have F3 := Lib.hid (F2.out.below b3)
  have I3 := Lib.hid (I2.out.below b3)
  have J3 := Lib.hid (J2.out.below b3)
  have G3 := Lib.hid i3
  have BB3 := Lib.hid (BB2.out.trans (b3.mono BB2.out.size))
  clear CC i3 b3
  simp only [exS, List.length_cons, List.length_nil]
  go_wp2_with fail
  have CD := find_fix _ exS pB w3 G3.out (by decide)
  rw [find_ex] at CD
  refine CD.mono ?_
  rintro e w4 ⟨rfl, b4⟩
  have F4 := Lib.hid (F3.out.below b4)
  have I4 := Lib.hid (I3.out.below b4)
  have J4 := Lib.hid (J3.out.below b4)
  have G4 := Lib.hid (G3.out.below b4)
  have BB4 := Lib.hid (BB3.out.trans (b4.mono BB3.out.size))
  clear CD b4
  simp only [Option.getD_some, Option.isSome_some, fxV]
  have NB := FixBlk.new w4 ⟨pB, 1, 0⟩
  simp only at NB
  obtain ⟨w5, hw5⟩ : ∃ w5, w5 = w4.alloc (.cells #[.string pB, .int .i64 1, .int .i64 0] 24) := ⟨_, rfl⟩
  have b5 : Below w4.heap.size w4 w5 := by rw [hw5]; exact (Below.refl _ _).alloc (Nat.le_refl _) _
  have hz5 : w5.heap.size = w4.heap.size + 1 := by rw [hw5]; simp
  rw [← hw5] at NB
  have N5 := Lib.hid NB
  have I5 := Lib.hid (I4.out.below b5)
  have J5 := Lib.hid (J4.out.below b5)
  have F5 := Lib.hid (F4.out.below b5)
  have BB5 := Lib.hid (BB4.out.trans (b5.mono BB4.out.size))
  have K5 := lit_ints w5 exC #[.int .i64 2, .int .i64 0, .int .i64 (-1), .int .i64 1, .int .i64 (-2), .int .i64 (-3), .int .i64 (-4)] 7 rfl rfl (by omega)
  rw [hz5] at K5
  have R5 : Hid (Calls Try.prog 24 #[.slice p1 7 k1, .slice (some ⟨w4.heap.size + 1, 0, none⟩) 7 7] (w5.alloc (.cells #[.int .i64 2, .int .i64 0, .int .i64 (-1), .int .i64 1, .int .i64 (-2), .int .i64 (-3), .int .i64 (-4)] 3)) (RB true (w5.alloc (.cells #[.int .i64 2, .int .i64 0, .int .i64 (-1), .int .i64 1, .int .i64 (-2), .int .i64 (-3), .int .i64 (-4)] 3)))) := Lib.hid (row_any _ _ exC exC _ (I5.out.below ((Below.refl _ _).alloc (Nat.le_refl _) _)) K5 (by decide))
  rw [hw5] at R5
  have HW5 := Lib.hid hw5
  clear NB b5 K5
  go_wp2_with fail
  refine R5.out.mono ?_
  rintro e w6 ⟨rfl, b6'⟩
  rw [← HW5.out] at b6'
  have b6 : Below w5.heap.size w5 w6 := ((Below.refl _ _).alloc (Nat.le_refl _) _).trans (b6'.mono (by simp))
  have N6 := Lib.hid (N5.out.below b6 N5.out.lt)
  have J6 := J5.out.below b6
  have F6 := Lib.hid (F5.out.below b6)
  have BB6 := Lib.hid (BB5.out.trans (b6.mono BB5.out.size))
  have K6 := lit_ints w6 exF #[.int .i64 (-1), .int .i64 0, .int .i64 (-2), .int .i64 1, .int .i64 (-3), .int .i64 2, .int .i64 (-4)] 7 rfl rfl (by omega)
  have R6 := Lib.hid (row_any _ _ exF exF _ (J6.below ((Below.refl _ _).alloc (Nat.le_refl _) _)) K6 (by decide))
  clear b6 b6' R5 hz5 hw5 HW5 J6 K6
  go_wp2_with fail
  refine R6.out.mono ?_
  rintro e w7 ⟨rfl, b7'⟩
  have b7 : Below w6.heap.size w6 w7 := ((Below.refl _ _).alloc (Nat.le_refl _) _).trans (b7'.mono (by simp))
  have N7 := Lib.hid (N6.out.below b7 N6.out.lt)
  have F7 := Lib.hid (F6.out.below b7)
  have BB7 := Lib.hid (BB6.out.trans (b7.mono BB6.out.size))
  obtain ⟨q0, q1, q2⟩ := N7.out.cells
  simp only at q0 q1 q2
  have R7 := Lib.hid (check_any _ exL w7 F7.out (by decide) small_ex)
  rw [check_ex] at R7
  clear b7 b7' R6
  go_wp2_with fail
  refine R7.out.mono ?_
  rintro e w8 ⟨rfl, b8⟩
  have F8 := F7.out.below b8
  have BB8 := Lib.hid (BB7.out.trans (b8.mono BB7.out.size))
  obtain ⟨b9, o9, he, hb9, hc9⟩ := fix_at F8 (by omega)
  simp only [Option.some.injEq, Addr.mk.injEq] at he
  obtain ⟨rfl, rfl, _⟩ := he
  obtain ⟨r0, r1, r2⟩ := hc9.fx 0 (by decide)
  simp only [Nat.zero_mul, Nat.add_zero, exL, List.getD_cons_zero] at r0 r1 r2
  have R8 := Lib.hid (fright_any ⟨sB, 7, -1⟩ w8 (by decide))
  rw [right_ex] at R8
  clear R7 b8 F8 hc9 hb9 q0 q1 q2
  go_wp2_with fail
  refine R8.out.mono ?_
  rintro e w9 ⟨rfl, b9⟩
  have BB9 := Lib.hid (BB8.out.trans (b9.mono BB8.out.size))
  clear R8 b9
  go_wp2
  go_ret
  exact ⟨rfl, BB9.out⟩
end Go.Proofs.Ytkmgapieoedelaa
