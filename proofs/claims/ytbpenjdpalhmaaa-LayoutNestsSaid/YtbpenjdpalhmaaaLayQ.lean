/- The printer: lay. -/
import Derived.Test.YtbpenjdpalhmaaaLayN
import Derived.Deep.CutBlock
namespace Go.Proofs.Ytbpenjdpalhmaaa
open Go.Shelf Go.RowKit Go.Lib Go.Sort Go.Proofs.TreeMath Go.Proofs.LayoutMath
attribute [local go_sem] run_store_complex
def nlC (l : List UInt8) : Nat := l.count 10
theorem nlC_append (a b : List UInt8) : nlC (a ++ b) = nlC a + nlC b := List.count_append
theorem nlC_le (a : List UInt8) : nlC a ≤ a.length := List.count_le_length
theorem nlC_plain (a : List UInt8) (h : ∀ x ∈ a, x ≠ 10) : nlC a = 0 := List.count_eq_zero.2 fun hm => h 10 hm rfl
/-- The sizes' cells. -/
def szf (ns : List Nd) (j : Nat) : Value := .int .i64 (((szs ns).getD j 0 : Nat) : Int)
/-- What the printer holds behind a text. -/
def PT (W : World) (b p : Nat) (dv : Value) (S : Nat) (ns : List Nd) (wd : Nat) (l : List UInt8) (w : World) : Prop := PS W b p dv S ns.length (szf ns) (wd : Int) l (colA l 0) (nlC l) w
def LPost (W : World) (b p : Nat) (dv : Value) (S : Nat) (ns : List Nd) (wd next : Nat) (l : List UInt8) (w : World) (e : Ending) (w' : World) : Prop := e = .returned (.int .i64 (next : Int)) ∧ PT W b p dv S ns wd l w' ∧ Kp b p w w'
/-- That a tree is laid out as it should. -/
def Good (W : World) (b p : Nat) (dv : Value) (S : Nat) (ns : List Nd) (wd : Nat) (n : Nd) (k : F) : Prop :=
  ∀ (pre post : List Nd) (ind : Nat) (fl : Bool) (l : List UInt8) (w : World), ns = pre ++ (n :: (k.flat ++ post)) → ind ≤ 40 * pre.length → l.length ≤ 1000001 * pre.length → PT W b p dv S ns wd l w →
    Calls Try.prog 38 #[.pointer (some ⟨p, 0, none⟩), .int .i64 (pre.length : Int), .agg #[.int .i64 (ind : Int), .bool fl]] w (LPost W b p dv S ns wd (pre.length + 1 + k.sz) (l ++ layT wd (.cons n k .nil) ind (colA l 0) fl) w)
def AllGood (W : World) (b p : Nat) (dv : Value) (S : Nat) (ns : List Nd) (wd : Nat) : F → Prop
  | .nil => True
  | .cons n k r => Good W b p dv S ns wd n k ∧ AllGood W b p dv S ns wd r
theorem PT.written {W : World} {b p : Nat} {dv : Value} {S : Nat} {ns : List Nd} {wd : Nat} {l s : List UInt8} {c y : Nat} {w : World} (h : PS W b p dv S ns.length (szf ns) (wd : Int) (l ++ s) c y w) (hc : c = colA s (colA l 0)) (hy : y = nlC l + nlC s) : PT W b p dv S ns wd (l ++ s) w := by
  unfold PT
  rw [colA_append, nlC_append, ← hc, ← hy]
  exact h
/-- The style's and the node's boxes. -/
def Boxes (B : Nat) (ind : Nat) (fl : Bool) (n : Nd) (w : World) : Prop := w.heap[B]? = some (.cells #[.int .i64 (ind : Int), .bool fl] 48 (0, 0)) ∧ w.heap[B + 1]? = some (.cells #[.int .i64 n.kind, .string n.text, .int .i64 n.num, .int .i64 n.kids] 38 (0, 0))
theorem Boxes.kept {B ind b p : Nat} {fl : Bool} {n : Nd} {w w' : World} (h : Boxes B ind fl n w) (k : Kp b p w w') (h1 : B ≠ b) (h2 : B ≠ p) (h3 : B + 1 ≠ b) (h4 : B + 1 ≠ p) : Boxes B ind fl n w' :=
  ⟨k _ _ h.1 h1 h2 (by simp), k _ _ h.2 h3 h4 (by simp)⟩
theorem Boxes.below {B ind : Nat} {fl : Bool} {n : Nd} {w w' : World} (h : Boxes B ind fl n w) (k : Below w.heap.size w w') (hB : B + 1 < w.heap.size) : Boxes B ind fl n w' :=
  ⟨(k.block _ (by omega)).trans h.1, (k.block _ hB).trans h.2⟩
theorem Boxes.setFlat {B ind : Nat} {fl : Bool} {n : Nd} {w : World} (h : Boxes B ind fl n w) (v : Bool) : Boxes B ind v n (w.setCell ⟨B, 1, none⟩ (.bool v)) := by
  constructor
  · have := h.1
    simp [World.setCell, Array.getElem?_modify, this]
  · rw [Below.heap_setCell _ _ _ _ (by simp)]
    exact h.2
theorem Boxes.setInd {B ind : Nat} {fl : Bool} {n : Nd} {w : World} (h : Boxes B ind fl n w) (i : Nat) : Boxes B i fl n (w.setCell ⟨B, 0, none⟩ (.int .i64 (i : Int))) := by
  constructor
  · have := h.1
    simp [World.setCell, Array.getElem?_modify, this]
  · rw [Below.heap_setCell _ _ _ _ (by simp)]
    exact h.2
theorem PT.nothing {W : World} {b p : Nat} {dv : Value} {S : Nat} {ns : List Nd} {wd : Nat} {l s : List UInt8} {w w' : World} (h : PT W b p dv S ns wd l w) (k : Below w.heap.size w w') (hs : s = []) : PT W b p dv S ns wd (l ++ s) w' := by
  subst hs
  rw [List.append_nil]
  exact PS.below h k
theorem heap_one (w : World) (o1 o2 : Obj) : ((w.alloc o1).alloc o2).heap[w.heap.size]? = (w.alloc o1).heap[w.heap.size]? := by
  show ((w.heap.push _).push _)[w.heap.size]? = (w.heap.push _)[w.heap.size]?
  rw [Array.getElem?_push_lt (by simp)]
  simp
theorem lay_one (wd : Nat) (n : Nd) (k : F) (ind col : Nat) (fl : Bool) : layT wd (.cons n k .nil) ind col fl = preT n ind fl ++ layT wd k (ind + addI n) (colA (preT n ind fl) col) (fl || grp n col (flatT k).length wd) := by simp [layT]
set_option maxHeartbeats 4000000 in
theorem lay_good (W : World) (b p : Nat) (S : Nat) (ns : List Nd) (wd bd off cap : Nat) (n : Nd) (k : F) (hN : ns.length ≤ 4000) (hb : bd < W.heap.size) (hc : Hid (CellsIn W bd off (nodeCells ns))) (hk : Hid (AllGood W b p (.slice (some ⟨bd, off, none⟩) ns.length cap) S ns wd k))
    (hk1 : Hid (n.kids = k.cnt)) (hk2 : Hid k.ok) (hk3 : Hid k.fine) (hn : Hid (okN n = true)) (hs : n.text.size ≤ 1000000) : Good W b p (.slice (some ⟨bd, off, none⟩) ns.length cap) S ns wd n k := by
  intro pre post ind fl l w hns hind hl hPT
  have hlen : ns.length = pre.length + (1 + k.sz + post.length) := by rw [hns]; simp [F.flat_length]; omega
  have hi : pre.length < ns.length := by omega
  have hnode : ns.getD pre.length default = n := by rw [hns]; simp [List.getD_eq_getElem?_getD]
  have hcl := colA_le l 0
  have hyl := nlC_le l
  have hP := hPT
  unfold PT at hP
  obtain ⟨q0, q1, q2, q3, q4, q5⟩ := hP.cells
  obtain ⟨c0, c1, c2, c3⟩ := (hc.out.kept (hP.bel.block bd hb)).node pre.length hi
  rw [hnode] at c0 c1 c2 c3
  have hpw := hP.lt
  have hbw : bd < w.heap.size := Nat.lt_of_lt_of_le hb hP.bel.size
  have HP := Lib.hid hPT
  have HNS := Lib.hid hns
  have HLEN := Lib.hid hlen
  obtain ⟨C, hC⟩ : ∃ C, C = colA l 0 := ⟨_, rfl⟩
  obtain ⟨Y, hY⟩ : ∃ Y, Y = nlC l := ⟨_, rfl⟩
  obtain ⟨I, hI⟩ : ∃ I, I = pre.length := ⟨_, rfl⟩
  obtain ⟨M, hM⟩ : ∃ M, M = ns.length := ⟨_, rfl⟩
  rw [← hC] at q3 hcl
  rw [← hY] at q3 hyl
  rw [← hC, ← hI, ← hM]
  rw [← hI] at c0 c1 c2 c3 hind hl hi
  rw [← hM] at q0 hi hN
  have HC := Lib.hid hC
  have HY := Lib.hid hY
  have HI := Lib.hid hI
  have HM := Lib.hid hM
  clear hC hY hI hM hPT hP hns hlen hnode
  obtain ⟨k0, t0, m0, d0⟩ := n
  simp only at c0 c1 c2 c3 hk1 hs
  have hk1' := hk1.out
  subst hk1'
  go_enter Try.func38, Try.ntmps38
  go_upto_block 0 with fail
  have hb2 : Below w.heap.size w ((w.alloc (.cells #[.int .i64 (ind : Int), .bool fl] 48)).alloc (.cells #[.int .i64 k0, .string t0, .int .i64 m0, .int .i64 (k.cnt : Int)] 38)) := ((Below.refl _ _).alloc (Nat.le_refl _) _).alloc (by simp) _
  have hx2 : Boxes w.heap.size ind fl ⟨k0, t0, m0, (k.cnt : Int)⟩ ((w.alloc (.cells #[.int .i64 (ind : Int), .bool fl] 48)).alloc (.cells #[.int .i64 k0, .string t0, .int .i64 m0, .int .i64 (k.cnt : Int)] 38)) := by
    constructor
    · rw [heap_one]
      show (w.heap.push _)[w.heap.size]? = _
      simp
    · show ((w.heap.push _).push _)[w.heap.size + 1]? = _
      rw [Array.getElem?_push]
      simp
  have hz2 : w.heap.size + 1 < ((w.alloc (.cells #[.int .i64 (ind : Int), .bool fl] 48)).alloc (.cells #[.int .i64 k0, .string t0, .int .i64 m0, .int .i64 (k.cnt : Int)] 38)).heap.size := by simp
  obtain ⟨w2, hw2⟩ : ∃ w2, w2 = (w.alloc (.cells #[.int .i64 (ind : Int), .bool fl] 48)).alloc (.cells #[.int .i64 k0, .string t0, .int .i64 m0, .int .i64 (k.cnt : Int)] 38) := ⟨_, rfl⟩
  rw [← hw2] at hb2 hx2 hz2 ⊢
  have hP2 : PT W b p (.slice (some ⟨bd, off, none⟩) ns.length cap) S ns wd l w2 := PS.below HP.out hb2
  have HK2 : Hid (Kp b p w w2) := Lib.hid (Kp.of_below hb2)
  have hbb : b < w.heap.size := by
    have h1 := HP.out
    unfold PT at h1
    rcases h1.bld with h | h <;> exact h.lt
  clear hw2 q0 q1 q2 q3 q4 q5 c0 c1 c2 c3
  have HP2 := Lib.hid hP2
  have HX2 := Lib.hid hx2
  have HB2 := Lib.hid hb2
  clear hP2 hx2 hb2
  go_cut [] from 16 to 64 (fun wx => PT W b p (.slice (some ⟨bd, off, none⟩) ns.length cap) S ns wd (l ++ preT ⟨k0, t0, m0, (k.cnt : Int)⟩ ind fl) wx ∧ Boxes w.heap.size (ind + addI ⟨k0, t0, m0, (k.cnt : Int)⟩) (fl || grp ⟨k0, t0, m0, (k.cnt : Int)⟩ C (flatT k).length wd) ⟨k0, t0, m0, (k.cnt : Int)⟩ wx ∧ Kp b p w wx)
  case first =>
    have hPS : PS W b p (.slice (some ⟨bd, off, none⟩) ns.length cap) S ns.length (szf ns) (wd : Int) l C Y w2 := by
      have := HP2.out
      unfold PT at this
      rwa [← HC.out, ← HY.out] at this
    obtain ⟨q0, q1, q2, q3, q4, q5⟩ := hPS.cells
    have hpw2 := hPS.lt
    have x0 := Lib.cell_of_heap HX2.out.1 0
    have x1 := Lib.cell_of_heap HX2.out.1 1
    have y1 := Lib.cell_of_heap HX2.out.2 1
    have y2 := Lib.cell_of_heap HX2.out.2 2
    have z0 := Lib.frozen_of_heap HX2.out.1 0
    have z1 := Lib.frozen_of_heap HX2.out.1 1
    simp only [List.getElem?_toArray, List.getElem?_cons_succ, List.getElem?_cons_zero] at x0 x1 y1 y2
    have HPS := Lib.hid hPS
    clear hPS HP2
    have hno := hn.out
    by_cases e5 : k0 = 45
    · subst e5
      have ht := okN_empty _ hno (by show (45 : Int) ≠ 41; decide)
      simp only at ht
      subst ht
      clear hno
      go_wp2_with fail
      go_meet
      case rel =>
        refine ⟨?_, ?_, HK2.out⟩
        · have e : preT ⟨45, ByteArray.empty, m0, (k.cnt : Int)⟩ ind fl = [] := rfl
          rw [e, List.append_nil]
          unfold PT
          rw [← HC.out, ← HY.out]
          exact HPS.out
        · have e : grp ⟨45, ByteArray.empty, m0, (k.cnt : Int)⟩ C (flatT k).length wd = false := rfl
          rw [e, Bool.or_false]
          exact HX2.out
    by_cases e4 : k0 = 44
    · subst e4
      have ht := okN_empty _ hno (by show (44 : Int) ≠ 41; decide)
      simp only at ht
      subst ht
      have hk44 : k.cnt = 1 := by
        rw [ok44] at hno
        simp at hno
        omega
      clear hno e5
      obtain ⟨n1, k1, rfl⟩ : ∃ n1 k1, k = .cons n1 k1 .nil := by
        cases k with
        | nil => simp [F.cnt] at hk44
        | cons n1 k1 r1 =>
          cases r1 with
          | nil => exact ⟨n1, k1, rfl⟩
          | cons _ _ _ => simp [F.cnt] at hk44
      clear hk44
      have hfl : (flatT (.cons n1 k1 .nil)).length = (ownT n1).length + (flatT k1).length := by simp [flatT]
      have hat : (szs ns).getD (I + 1) 0 = (flatT (.cons n1 k1 .nil)).length := by
        rw [hfl, HNS.out]
        have := szs_at n1 k1 hk2.out.1 hk2.out.2.1 (pre ++ [⟨44, ByteArray.empty, m0, ((F.cons n1 k1 .nil).cnt : Int)⟩]) post
        simp only [F.flat, List.append_nil, List.cons_append, List.append_assoc, List.nil_append, List.length_append, List.length_singleton] at this ⊢
        rw [HI.out]
        exact this
      have hsz : (flatT (.cons n1 k1 .nil)).length ≤ 10000000000 := by
        have h1 := flat_len _ hk3.out
        have h2 := HLEN.out
        rw [← HM.out] at h2
        omega
      have hI1 : I + 1 < M := by
        have h2 := HLEN.out
        rw [← HM.out, ← HI.out] at h2
        simp only [F.sz] at h2
        omega
      obtain ⟨T, hT⟩ : ∃ T, T = (flatT (.cons n1 k1 .nil)).length := ⟨_, rfl⟩
      rw [← hT] at hat hsz
      have HT := Lib.hid hT
      have FIT := Lib.hid (fun (W2 : World) (hW : Below w2.heap.size w2 W2) => fits_any W b p (.slice (some ⟨bd, off, none⟩) ns.length cap) S ns.length (szf ns) (wd : Int) l C Y (I + 1) T W2 (HPS.out.below hW) (by omega) (by rw [← HM.out]; exact hI1) (by unfold szf; rw [hat]) (by omega))
      clear hT hat
      cases fl
      · go_wp2_with fail
        refine (FIT.out _ (Below.refl _ _)).mono ?_
        rintro e w3 ⟨rfl, b3⟩
        have v1 := (b3.cell (p := ⟨w.heap.size, 1, none⟩) (by simp; omega)).trans x1
        have v2 := (b3.frozen (p := ⟨w.heap.size, 1, none⟩) (by simp; omega)).trans z1
        have B3 := Lib.hid b3
        clear b3
        go_wp2_with fail
        go_meet
        case rel =>
          have hbx := (HB2.out.trans (B3.out.mono HB2.out.size)).setCell (p := ⟨w.heap.size, 1, none⟩) (Nat.le_refl _) (.bool (decide ((C : Int) + (T : Int) ≤ (wd : Int))))
          refine ⟨PT.nothing HP.out hbx rfl, ?_, Kp.of_below hbx⟩
          have e : grp ⟨44, ByteArray.empty, m0, ((F.cons n1 k1 .nil).cnt : Int)⟩ C (flatT (.cons n1 k1 .nil)).length wd = decide ((C : Int) + (T : Int) ≤ (wd : Int)) := by
            rw [← HT.out]
            unfold grp
            simp
            omega
          rw [e, Bool.false_or]
          exact (HX2.out.below B3.out hz2).setFlat _
      · go_wp2_with fail
        go_meet
        case rel =>
          have hbx := HB2.out.setCell (p := ⟨w.heap.size, 1, none⟩) (Nat.le_refl _) (.bool true)
          refine ⟨PT.nothing HP.out hbx rfl, ?_, Kp.of_below hbx⟩
          rw [Bool.true_or]
          exact HX2.out.setFlat _
    by_cases e3 : k0 = 43
    · subst e3
      have ht := okN_empty _ hno (by show (43 : Int) ≠ 41; decide)
      simp only at ht
      subst ht
      have hm := okN_num _ hno
      simp only at hm
      obtain ⟨m, rfl⟩ : ∃ m : Nat, m0 = (m : Int) := ⟨m0.toNat, by omega⟩
      have hmb : m ≤ 40 := by omega
      clear hno e5 e4 hm
      go_wp2_with fail
      go_meet
      case rel =>
        have e : (ind : Int) + (m : Int) = ((ind + m : Nat) : Int) := by omega
        have e' : addI ⟨43, ByteArray.empty, (m : Int), (k.cnt : Int)⟩ = m := by
          show (if (43 : Int) = 43 then ((m : Int)).toNat else 0) = m
          rw [if_pos rfl, Int.toNat_natCast]
        have hbx := HB2.out.setCell (p := ⟨w.heap.size, 0, none⟩) (Nat.le_refl _) (.int .i64 (((ind + m : Nat) : Int)))
        rw [e, e']
        refine ⟨PT.nothing HP.out hbx rfl, ?_, Kp.of_below hbx⟩
        have e2 : grp ⟨43, ByteArray.empty, (m : Int), (k.cnt : Int)⟩ C (flatT k).length wd = false := rfl
        rw [e2, Bool.or_false]
        exact HX2.out.setInd _
    by_cases e2 : k0 = 42
    · subst e2
      have ht := okN_empty _ hno (by show (42 : Int) ≠ 41; decide)
      simp only at ht
      subst ht
      clear hno e5 e4 e3
      have CB : Hid (C + 1 < 2 ^ 53 ∧ Y + 1 < 2 ^ 53 ∧ l.length ≤ 10000000000000 ∧ ind ≤ 10000000000000) := Lib.hid ⟨by omega, by omega, by omega, by omega⟩
      cases fl
      · have A := Lib.hid (after_line W b p (.slice (some ⟨bd, off, none⟩) ns.length cap) S ns.length (szf ns) (wd : Int) l C Y ind w2 HPS.out CB.out.2.1)
        have MV := Lib.hid (fun (W2 : World) (hW : Below w2.heap.size w2 W2) => move_line W b p (.slice (some ⟨bd, off, none⟩) ns.length cap) S ns.length (szf ns) (wd : Int) l C Y ind W2 (HPS.out.below hW) (by have := CB.out; omega) CB.out.2.2.2 CB.out.2.1 CB.out.2.2.1)
        go_wp2_with fail
        refine A.out.mono ?_
        rintro e w3 ⟨rfl, b3⟩
        have B3 := Lib.hid b3
        clear b3
        go_wp2_with fail
        refine (MV.out _ B3.out).mono ?_
        rintro e w4 ⟨rfl, p4, k4⟩
        have P4 := Lib.hid p4
        have K4 := Lib.hid k4
        clear p4 k4
        go_wp2_with fail
        go_meet
        case rel =>
          refine ⟨?_, ?_, HK2.out.trans ((Kp.of_below B3.out).trans K4.out)⟩
          · have e : preT ⟨42, ByteArray.empty, m0, (k.cnt : Int)⟩ ind false = 10 :: List.replicate ind 32 := rfl
            rw [e]
            refine PT.written P4.out ?_ ?_
            · show ind = colA (List.replicate ind 32) 0
              rw [colA_plain _ (by intro x hx; rw [(List.mem_replicate.1 hx).2]; decide), List.length_replicate, Nat.zero_add]
            · rw [← HY.out]
              have : nlC (10 :: List.replicate ind 32) = 1 := by
                unfold nlC
                rw [List.count_cons_self, List.count_eq_zero.2 (by intro hm; have := (List.mem_replicate.1 hm).2; revert this; decide)]
              rw [this]
          · have e : grp ⟨42, ByteArray.empty, m0, (k.cnt : Int)⟩ C (flatT k).length wd = false := rfl
            rw [e, Bool.or_false]
            exact (HX2.out.below B3.out hz2).kept K4.out (by omega) (by omega) (by omega) (by omega)
      · have A := Lib.hid (after_flat W b p (.slice (some ⟨bd, off, none⟩) ns.length cap) S ns.length (szf ns) (wd : Int) l C Y ind w2 HPS.out CB.out.1 (by have := CB.out; omega))
        have MV := Lib.hid (fun (W2 : World) (hW : Below w2.heap.size w2 W2) => move_flat W b p (.slice (some ⟨bd, off, none⟩) ns.length cap) S ns.length (szf ns) (wd : Int) l C Y (C + 1) W2 (HPS.out.below hW) (by omega) (by have := CB.out; omega) (by have := CB.out; omega) CB.out.2.2.1)
        go_wp2_with fail
        refine A.out.mono ?_
        rintro e w3 ⟨rfl, b3⟩
        have B3 := Lib.hid b3
        clear b3
        go_wp2_with fail
        refine (MV.out _ B3.out).mono ?_
        rintro e w4 ⟨rfl, p4, k4⟩
        have P4 := Lib.hid p4
        have K4 := Lib.hid k4
        clear p4 k4
        go_wp2_with fail
        go_meet
        case rel =>
          refine ⟨?_, ?_, HK2.out.trans ((Kp.of_below B3.out).trans K4.out)⟩
          · have e : preT ⟨42, ByteArray.empty, m0, (k.cnt : Int)⟩ ind true = [32] := rfl
            rw [e]
            have P5 := P4.out
            rw [show C + 1 - C = 1 by omega] at P5
            refine PT.written P5 ?_ ?_
            · rw [← HC.out]; rfl
            · rw [← HY.out]; rfl
          · have e : grp ⟨42, ByteArray.empty, m0, (k.cnt : Int)⟩ C (flatT k).length wd = false := rfl
            rw [e, Bool.or_false]
            exact (HX2.out.below B3.out hz2).kept K4.out (by omega) (by omega) (by omega) (by omega)
    have e1 : k0 = 41 := by
      by_cases h41 : k0 = 41
      · exact h41
      · have := ok_other k0 t0 m0 (k.cnt : Int) h41 e2 e3 e4 e5
        rw [this] at hno
        cases hno
    subst e1
    have htx := (okN_text _ hno).1
    simp only at htx
    have HTX : Hid (∀ x ∈ t0.data.toList, x ≠ 10) := Lib.hid (fun x hx e => by
      have := htx x hx
      rw [e] at this
      revert this
      decide)
    clear hno e5 e4 e3 e2 htx
    have PUT := Lib.hid (fun (W2 : World) (hW : Below w2.heap.size w2 W2) => put_any W b p (.slice (some ⟨bd, off, none⟩) ns.length cap) S ns.length (szf ns) (wd : Int) l C Y t0 W2 (HPS.out.below hW) (by omega))
    have hfl : cSumBits .add .f64 (flt C) (flt Y) (floatOfInt .f64 (t0.size : Int)) 0 = some (flt (C + t0.size), flt Y) := by
      unfold cSumBits
      rw [show floatOfInt .f64 (t0.size : Int) = flt t0.size from rfl, ← flt_zero, flt_add (by omega), flt_add (by omega)]
      rfl
    have hop : ∀ w, (binOp .add 65 (.complex .f64 (flt C) (flt Y)) (.complex .f64 (floatOfInt .f64 (t0.size : Int)) 0)).run Try.prog w = .ok (.complex .f64 (flt (C + t0.size)) (flt Y)) w := fun w => run_complex_sum w .add (.inl rfl) 65 .f64 _ _ _ _ _ _ hfl
    clear hfl
    go_upto_region 4 with fail
    go_cut [] from 20 to 26 (fun wx => PS W b p (.slice (some ⟨bd, off, none⟩) ns.length cap) S ns.length (szf ns) (wd : Int) (l ++ t0.data.toList) C Y wx ∧ Kp b p w2 wx)
    case first =>
      go_region_with (go_at_call 36; refine (PUT.out _ ((Below.refl _ _).drew)).mono ?_; (rintro e w3 ⟨rfl, ps3, kp3⟩; have P3 := Lib.hid ps3; have K3 := Lib.hid kp3; clear ps3 kp3))
      all_goals
        go_wp2_with fail
        go_meet
        case rel => exact ⟨P3.out, K3.out⟩
    case rest =>
      obtain ⟨h3, k3⟩ := hcut
      have hx3 := HX2.out.kept k3 (by omega) (by omega) (by omega) (by omega)
      obtain ⟨_, _, _, r3, _, r5⟩ := h3.cells
      have s1 := Lib.cell_of_heap hx3.2 1
      simp only [List.getElem?_toArray, List.getElem?_cons_succ, List.getElem?_cons_zero] at s1
      have hp3 := h3.lt
      have H3 := Lib.hid h3
      have K3 := Lib.hid k3
      have X3 := Lib.hid hx3
      clear h3 k3 hx3 q0 q1 q2 q3 q4 q5 x0 x1 y1 y2 z0 z1
      go_wp2_with fail
      go_region
      all_goals
        go_wp2_with fail
        go_meet
        case rel =>
          have e : preT ⟨41, t0, m0, (k.cnt : Int)⟩ ind fl = t0.data.toList := rfl
          have e2 : grp ⟨41, t0, m0, (k.cnt : Int)⟩ C (flatT k).length wd = false := rfl
          rw [e, e2, Bool.or_false]
          have h4 := (H3.out.put (C + t0.size) Y).below (Below.refl _ _).drew
          have kp := Kp.setCell (b := b) (p := p) wc 3 (.complex .f64 (flt (C + t0.size)) (flt Y))
          have x4 := X3.out.kept kp (by omega) (by omega) (by omega) (by omega)
          refine ⟨PT.written h4 ?_ ?_, x4, HK2.out.trans (K3.out.trans kp)⟩
          · rw [colA_plain _ HTX.out, ← HC.out]
            simp
          · rw [nlC_plain _ HTX.out, ← HY.out, Nat.add_zero]
  case rest =>
    obtain ⟨h3, hx3, k3⟩ := hcut
    obtain ⟨IND, hIND⟩ : ∃ IND, IND = ind + addI ⟨k0, t0, m0, (k.cnt : Int)⟩ := ⟨_, rfl⟩
    obtain ⟨FL, hFL⟩ : ∃ FL, FL = (fl || grp ⟨k0, t0, m0, (k.cnt : Int)⟩ C (flatT k).length wd) := ⟨_, rfl⟩
    obtain ⟨L, hL⟩ : ∃ L, L = l ++ preT ⟨k0, t0, m0, (k.cnt : Int)⟩ ind fl := ⟨_, rfl⟩
    rw [← hL] at h3
    rw [← hIND, ← hFL] at hx3
    have hINDb : IND ≤ 40 * (I + 1) := by
      have := addI_le _ hn.out
      rw [hIND]
      omega
    have hLb : L.length ≤ 1000001 * (I + 1) := by
      have := pre_len ⟨k0, t0, m0, (k.cnt : Int)⟩ ind fl hs (by omega)
      rw [hL, List.length_append]
      omega
    have hres : l ++ layT wd (.cons ⟨k0, t0, m0, (k.cnt : Int)⟩ k .nil) ind C fl = L ++ layT wd k IND (colA L 0) FL := by
      rw [lay_one, hL, colA_append, ← HC.out, hIND, hFL, List.append_assoc]
    have hlb := HLEN.out
    rw [← HM.out, ← HI.out] at hlb
    have HRES := Lib.hid hres
    have hlb2 : I + 1 + k.sz ≤ 4000 := by omega
    have hcs := F.cnt_le k
    clear hlb
    have c3 := Lib.cell_of_heap hx3.2 3
    simp only [List.getElem?_toArray, List.getElem?_cons_succ, List.getElem?_cons_zero] at c3
    have H3 := Lib.hid h3
    have X3 := Lib.hid hx3
    have K3 := Lib.hid k3
    clear h3 hx3 k3 hIND hFL hL hres HX2 HB2 HP2 hcl hyl hind hl
    go_wp2_with fail
    go_loopw [8, 69] (fun t8 t69 wr => ∃ (j Q : Nat) (g : F) (pre' : List Nd) (l' : List UInt8), j + g.cnt = k.cnt ∧ t69 = .int .i64 (j : Int) ∧ t8 = .int .i64 (Q : Int) ∧ Q = pre'.length ∧ ns = pre' ++ (g.flat ++ post) ∧ l'.length ≤ 1000001 * Q ∧ PT W b p (.slice (some ⟨bd, off, none⟩) ns.length cap) S ns wd l' wr ∧
      l' ++ layT wd g IND (colA l' 0) FL = L ++ layT wd k IND (colA L 0) FL ∧ AllGood W b p (.slice (some ⟨bd, off, none⟩) ns.length cap) S ns wd g ∧ g.fine ∧ g.ok ∧ Boxes w.heap.size IND FL ⟨k0, t0, m0, (k.cnt : Int)⟩ wr ∧ Kp b p w wr ∧ Q + g.sz = I + 1 + k.sz ∧ I + 1 ≤ Q) (fun _ t69 _ => k.cnt - (intOf t69).toNat)
    case atStart =>
      refine ⟨0, I + 1, k, pre ++ [⟨k0, t0, m0, (k.cnt : Int)⟩], L, by omega, rfl, by go_num, by rw [List.length_append, ← HI.out]; rfl, ?_, hLb, H3.out, rfl, hk.out, hk3.out, hk2.out, X3.out, K3.out, rfl, Nat.le_refl _⟩
      rw [HNS.out]
      simp
    case round =>
      obtain ⟨wo, hwo⟩ : ∃ wo : World, wo = wr := ⟨_, rfl⟩
      subst hwo
      obtain ⟨j, Q, g, pre', l', hj, rfl, rfl, hQ, hns', hl', hPT', hlay, hgood, hfine, hok, hbx, hkp, hsz, hIQ⟩ := hrel
      rcases g with _ | ⟨n1, k1, r1⟩
      · have hj' : j = k.cnt := by simpa [F.cnt] using hj
        subst hj'
        have hQ' : Q = I + 1 + k.sz := by simpa [F.sz] using hsz
        subst hQ'
        have P' := Lib.hid hPT'
        have K' := Lib.hid hkp
        have LAY := Lib.hid hlay
        clear hPT' hkp hlay hgood hbx hns' hQ hsz hj
        go_wp2
        go_ret
        refine ⟨rfl, ?_, K'.out⟩
        have e := LAY.out
        rw [show layT wd F.nil IND (colA l' 0) FL = [] from rfl, List.append_nil] at e
        rw [HRES.out, ← e, HM.out]
        exact P'.out
      · have hlt : j < k.cnt := by simp only [F.cnt] at hj; omega
        simp only [F.sz] at hsz
        have hcall := hgood.1 pre' (r1.flat ++ post) IND FL l' wo (by rw [hns']; simp [F.flat]) (by rw [← hQ]; omega) (by rw [← hQ]; exact hl') hPT'
        rw [← hQ] at hcall
        have HCALL := Lib.hid hcall
        have x0 := Lib.cell_of_heap hbx.1 0
        have x1 := Lib.cell_of_heap hbx.1 1
        simp only [List.getElem?_toArray, List.getElem?_cons_succ, List.getElem?_cons_zero] at x0 x1
        have HGOOD := Lib.hid hgood
        have HBX := Lib.hid hbx
        have HKP := Lib.hid hkp
        have HLAY := Lib.hid hlay
        have HQ := Lib.hid hQ
        have HNS' := Lib.hid hns'
        have HFINE := Lib.hid hfine
        have HOK := Lib.hid hok
        have HSZ := Lib.hid hsz
        have HJ := Lib.hid hj
        clear hcall hgood hbx hkp hlay hQ hns' hfine hok hsz hj hPT'
        go_wp2_with fail
        refine HCALL.out.mono ?_
        rintro e w4 ⟨rfl, p4, k4⟩
        have P4 := Lib.hid p4
        have K4 := Lib.hid k4
        clear p4 k4 x0 x1
        go_wp2_with fail
        go_roundw
        case rel =>
          have hsz := HSZ.out
          have hsz1 : (F.cons n1 k1 .nil).sz = 1 + k1.sz := by simp [F.sz]
          have hll := lay_len wd (.cons n1 k1 .nil) ⟨HFINE.out.1, HFINE.out.2.1, HFINE.out.2.2.1, trivial⟩ IND (colA l' 0) FL (by rw [hsz1]; omega)
          rw [hsz1] at hll
          refine ⟨j + 1, Q + 1 + k1.sz, r1, pre' ++ (n1 :: k1.flat), _, by have := HJ.out; simp only [F.cnt] at this; omega, by go_num, rfl, by rw [List.length_append, ← HQ.out]; simp [F.flat_length]; omega, by rw [HNS'.out]; simp [F.flat], ?_, P4.out, ?_, HGOOD.out.2, HFINE.out.2.2.2, HOK.out.2.2, HBX.out.kept K4.out (by omega) (by omega) (by omega) (by omega), HKP.out.trans K4.out, by omega, by omega⟩
          · rw [List.length_append]
            omega
          · rw [← HLAY.out, lay_cons wd n1 k1 r1, colA_append, List.append_assoc]
        case measure => simp [intOf]; omega
/-- All trees are laid out as they should. -/
theorem all_good (W : World) (b p : Nat) (S : Nat) (ns : List Nd) (wd bd off cap : Nat) (hN : ns.length ≤ 4000) (hb : bd < W.heap.size) (hc : CellsIn W bd off (nodeCells ns)) (f : F) : f.ok → f.fine → AllGood W b p (.slice (some ⟨bd, off, none⟩) ns.length cap) S ns wd f := by
  induction f with
  | nil => intro _ _; trivial
  | cons n k r hk hr =>
    rintro ⟨h1, h2, h3⟩ ⟨g1, g2, g3, g4⟩
    exact ⟨lay_good W b p S ns wd bd off cap n k hN hb hc (hk h2 g3) (Lib.hid h1) (Lib.hid h2) (Lib.hid g3) (Lib.hid g1) g2, hr h3 g4⟩
end Go.Proofs.Ytbpenjdpalhmaaa
