/- The document's less; its Free. -/
import Derived.Test.YtlalnmefppbebaaSynX
namespace Go.Proofs.Ytlalnmefppbebaa
open Go.RowKit Go.Proofs.TreeMath
theorem freeK_sz (f : F) : ∀ kind txt i names, (freeK f kind txt i names).length ≤ f.sz := by
  induction f with
  | nil => intros; exact Nat.le_refl _
  | cons n k r hk hr =>
    intro kind txt i names
    simp only [F.sz]
    by_cases h : kind = 10 ∧ i % 2 = 1
    · rw [freeK_pat _ _ _ _ _ _ _ h]
      have := hr kind txt (i + 1) (varsF (.cons n k .nil))
      omega
    · rw [freeK_exp _ _ _ _ _ _ _ h, List.length_append]
      have a := hr kind txt (i + 1) (if bindsB kind i then [txt] else names)
      have b : (lessL (freeT n k) (if bindsB kind i then [txt] else names)).length ≤ (freeT n k).length := List.length_filter_le _ _
      have c : (freeT n k).length ≤ 1 + k.sz := by
        unfold freeT
        rw [List.length_append]
        have := hk n.kind n.text 0 []
        split <;> simp <;> omega
      omega
theorem freeT_sz (n : Nd) (k : F) : (freeT n k).length ≤ 1 + k.sz := by
  unfold freeT
  rw [List.length_append]
  have := freeK_sz k n.kind n.text 0 []
  split <;> simp <;> omega
theorem strs_cells {w : World} {v : Value} {ss : List ByteArray} (h : StrsAt w v ss) : ∃ p c, v = .slice p ss.length c ∧ (ss.length ≠ 0 → ∃ b o, p = some ⟨b, o, none⟩ ∧ b < w.heap.size ∧ CellsIn w b o (strCells ss)) := by
  obtain ⟨_, p, c, rfl, _, _, hs⟩ := h
  exact ⟨p, c, rfl, hs⟩
theorem drop_str (xs : List ByteArray) (j : Nat) (h : j < xs.length) : xs.drop j = xs.getD j default :: xs.drop (j + 1) := by
  rw [List.drop_eq_getElem_cons h, List.getD_eq_getElem?_getD, List.getElem?_eq_getElem h]
  rfl
set_option maxRecDepth 100000 in
set_option maxHeartbeats 8000000 in
theorem less_in (ap : Option Addr) (A ac : Nat) (vb : Value) (xs bs : List ByteArray) (w : World) (HA : Hid (A ≠ 0 → ∃ b o, ap = some ⟨b, o, none⟩ ∧ b < w.heap.size ∧ CellsIn w b o (strCells xs))) (hA : Hid (xs.length = A)) (hA3 : A ≤ 100000) (HB : Hid (StrsAt w vb bs)) :
    Calls Try.prog 70 #[.slice ap A ac, vb] w (SOwn (lessL xs bs) w) := by
  obtain ⟨i0, hi0, hz0, hz1, hz2⟩ := infoStr
  have HIN := Lib.hid (And.intro hi0 (And.intro hz0 (And.intro hz1 hz2)))
  clear hi0 hz0 hz1 hz2
  have bz : Below w.heap.size w (w.alloc (.cells #[] 9)) := (Below.refl _ _).alloc (Nat.le_refl _) _
  have BZ := Lib.hid bz
  have RZ := Lib.hid (show SRow w.heap.size (w.alloc (.cells #[] 9)) (.slice (some ⟨w.heap.size, 0, none⟩) 0 0) [] from World.ownsRow_made w #[] 0 (Nat.le_refl _) (by simp [maxLen]) rfl)
  clear bz
  obtain ⟨R, hR⟩ : ∃ R, R = lessL xs bs := ⟨_, rfl⟩
  rw [← hR]
  have HR := Lib.hid hR
  have LR : Hid (R.length ≤ 100000) := Lib.hid (by rw [hR]; exact Nat.le_trans (List.length_filter_le _ _) (by rw [hA.out]; exact hA3))
  clear hR
  go_enter Try.func70, Try.ntmps70
  go_wp2_with fail
  go_loopw [5, 6] (fun s5 s6 wr => ∃ (j : Nat) (wv : Value) (dn : List ByteArray), wv = s5 ∧ j ≤ A ∧ s6 = .int .i64 (j : Int) ∧ dn ++ lessL (xs.drop j) bs = R ∧ SRow w.heap.size wr wv dn ∧ Below w.heap.size w wr) (fun _ s6 _ => A - (intOf s6).toNat)
  case atStart => exact ⟨0, _, [], rfl, Nat.zero_le _, rfl, by rw [HR.out]; rfl, RZ.out, BZ.out⟩
  case round =>
    obtain ⟨wo, hwo⟩ : ∃ wo : World, wo = wr := ⟨_, rfl⟩
    subst hwo
    obtain ⟨j, wv, dn, rfl, hj, rfl, hres, hrow, hbl⟩ := hrel
    have ROW := Lib.hid hrow
    have BL := Lib.hid hbl
    clear hrow hbl
    by_cases h1 : j < A
    · obtain ⟨b, o, rfl, hb, hc⟩ := HA.out (by omega)
      have hjl : j < xs.length := by rw [hA.out]; exact h1
      have c0 := (hc.kept (BL.out.block b hb)).str j hjl
      rw [drop_str xs j hjl] at hres
      obtain ⟨t, ht⟩ : ∃ t, t = xs.getD j default := ⟨_, rfl⟩
      rw [← ht] at c0 hres
      have INC := Lib.hid (in_any vb bs t wo (HB.out.below BL.out))
      have hltz : ((j : Int) < (A : Int)) := by omega
      have hbw : b < wo.heap.size := Nat.lt_of_lt_of_le hb BL.out.size
      clear ht hc hjl
      cases hin : inB t bs with
      | true =>
        rw [hin] at INC
        have hres2 := Lib.hid (show dn ++ lessL (xs.drop (j + 1)) bs = R by
          rw [← hres]
          simp [lessL, hin])
        clear hres hin
        go_wp2_with fail
        refine INC.out.mono ?_
        rintro e wx ⟨rfl, rfl⟩
        go_wp2_with fail
        go_roundw
        case rel => exact ⟨j + 1, _, dn, rfl, h1, by go_num, hres2.out, ROW.out, BL.out⟩
        case measure => simp [intOf]; omega
      | false =>
        rw [hin] at INC
        have hres2 := Lib.hid (show (dn ++ [t]) ++ lessL (xs.drop (j + 1)) bs = R by
          rw [← hres]
          simp [lessL, hin])
        have LEN : Hid (dn.length + 1 ≤ 100000) := Lib.hid (by
          have := congrArg List.length hres2.out
          have := LR.out
          simp at *
          omega)
        clear hres hin
        have bo : Below wo.heap.size wo (wo.alloc (.cells #[.string t] 9)) := (Below.refl _ _).alloc (Nat.le_refl _) _
        have R1 := Lib.hid (ROW.out.after bo)
        have BO := Lib.hid (BL.out.alloc BL.out.size (.cells #[.string t] 9))
        unfold SRow at R1
        clear bo
        go_wp2_with fail
        refine INC.out.mono ?_
        rintro e wx ⟨rfl, rfl⟩
        go_wp2_with (first
          | (at_builtin; refine wpList_append_any _ rfl _ _ 31 rfl w.heap.size 9 i0 (.string ByteArray.empty) 1 16 Try.underlying31 HIN.out.1 HIN.out.2.1 HIN.out.2.2.1 HIN.out.2.2.2 rfl (by decide) _ _ _ rfl R1.out (some ⟨wo.heap.size, 0, none⟩) 1 1 [.string t] rfl rfl (fun _ => ⟨_, rfl, cell_one_new _ _ _⟩) (strCells_one [t]) (by have := LEN.out; unfold maxLen; omega) (by have := LEN.out; omega) BO.out.size ?_; intro p' cap' w3 hown hgrow hloc; have HO3 := Lib.hid hown; have HG3 := Lib.hid hgrow; clear hown hgrow hloc)
          | go_in)
        go_roundw
        case rel =>
          refine ⟨j + 1, _, dn ++ [t], rfl, h1, by go_num, hres2.out, ?_, BO.out.grown HG3.out BO.out.size (fun q hq => (World.ownsRow.there R1.out hq).1)⟩
          unfold SRow
          rw [List.length_append, strCells_append]
          exact HO3.out
        case measure => simp [intOf]; omega
    · obtain rfl : j = A := by omega
      have e : dn = R := by
        rw [← hres, ← hA.out, List.drop_length]
        simp [lessL]
      subst e
      clear hres
      go_wp2_with fail
      go_ret
      exact ⟨_, rfl, ROW.out, BL.out⟩
theorem less_any (va vb : Value) (xs bs : List ByteArray) (w : World) (ha : StrsAt w va xs) (hb : StrsAt w vb bs) (hl : xs.length ≤ 100000) : Calls Try.prog 70 #[va, vb] w (SOwn (lessL xs bs) w) := by
  obtain ⟨p, c, rfl, hs⟩ := strs_cells ha
  exact less_in p _ c vb xs bs w (Lib.hid hs) (Lib.hid rfl) hl (Lib.hid hb)
theorem addAll_ge (l : List ByteArray) : ∀ acc, acc.length ≤ (addAll acc l).length := by
  induction l with
  | nil => intro acc; exact Nat.le_refl _
  | cons t l ih =>
    intro acc
    have e : addAll acc (t :: l) = addAll (if inB t acc then acc else acc ++ [t]) l := rfl
    rw [e]
    refine Nat.le_trans ?_ (ih _)
    split <;> simp
theorem addAll_cons (acc : List ByteArray) (t : ByteArray) (l : List ByteArray) : addAll acc (t :: l) = addAll (if inB t acc then acc else acc ++ [t]) l := rfl
set_option maxRecDepth 100000 in
set_option maxHeartbeats 8000000 in
theorem rfree_in (v : Value) (xs : List ByteArray) (w : World) (FR : Hid (Calls Try.prog 41 #[v, .int .i64 0] w (SOwn xs w))) (hA3 : xs.length ≤ 100000) :
    Calls Try.prog 21 #[v] w (SRet (addAll [] xs) w) := by
  obtain ⟨i0, hi0, hz0, hz1, hz2⟩ := infoStr
  have HIN := Lib.hid (And.intro hi0 (And.intro hz0 (And.intro hz1 hz2)))
  clear hi0 hz0 hz1 hz2
  obtain ⟨R, hR⟩ : ∃ R, R = addAll [] xs := ⟨_, rfl⟩
  rw [← hR]
  have HR := Lib.hid hR
  have LR : Hid (R.length ≤ 100000) := Lib.hid (by rw [hR]; have := (addAll_len xs []).1; simp at this; omega)
  clear hR
  go_enter Try.func21, Try.ntmps21
  go_wp2_with fail
  refine FR.out.mono ?_
  rintro e w1 ⟨v1, rfl, r1, b1⟩
  obtain ⟨ap, ac, rfl, hs⟩ := strs_cells r1.at
  have HA := Lib.hid hs
  have B1 := Lib.hid b1
  clear hs b1 r1
  obtain ⟨A, hA⟩ : ∃ A, A = xs.length := ⟨_, rfl⟩
  rw [← hA] at HA hA3 ⊢
  have HAL := Lib.hid hA
  clear hA
  have BZ := Lib.hid (show Below w1.heap.size w1 (w1.alloc (.cells #[] 9)) from (Below.refl _ _).alloc (Nat.le_refl _) _)
  have RZ := Lib.hid (show SRow w1.heap.size (w1.alloc (.cells #[] 9)) (.slice (some ⟨w1.heap.size, 0, none⟩) 0 0) [] from World.ownsRow_made w1 #[] 0 (Nat.le_refl _) (by simp [maxLen]) rfl)
  go_wp2_with fail
  go_loopw [4, 5] (fun s4 s5 wr => ∃ (j : Nat) (wv : Value) (dn : List ByteArray), wv = s4 ∧ j ≤ A ∧ s5 = .int .i64 (j : Int) ∧ addAll dn (xs.drop j) = R ∧ SRow w1.heap.size wr wv dn ∧ Below w1.heap.size w1 wr) (fun _ s5 _ => A - (intOf s5).toNat)
  case atStart => exact ⟨0, _, [], rfl, Nat.zero_le _, rfl, by rw [HR.out]; rfl, RZ.out, BZ.out⟩
  case round =>
    obtain ⟨wo, hwo⟩ : ∃ wo : World, wo = wr := ⟨_, rfl⟩
    subst hwo
    obtain ⟨j, wv, dn, rfl, hj, rfl, hres, hrow, hbl⟩ := hrel
    have ROW := Lib.hid hrow
    have BL := Lib.hid hbl
    clear hrow hbl
    by_cases h1 : j < A
    · obtain ⟨b, o, rfl, hb, hc⟩ := HA.out (by omega)
      have hjl : j < xs.length := by rw [← HAL.out]; exact h1
      have c0 := (hc.kept (BL.out.block b hb)).str j hjl
      rw [drop_str xs j hjl, addAll_cons] at hres
      obtain ⟨t, ht⟩ : ∃ t, t = xs.getD j default := ⟨_, rfl⟩
      rw [← ht] at c0 hres
      have INC := Lib.hid (in_any wv dn t wo ROW.out.at)
      have hltz : ((j : Int) < (A : Int)) := by omega
      have hbw : b < wo.heap.size := Nat.lt_of_lt_of_le hb BL.out.size
      clear ht hc hjl
      cases hin : inB t dn with
      | true =>
        rw [hin] at INC hres
        have hres2 := Lib.hid (show addAll dn (xs.drop (j + 1)) = R from hres)
        clear hres hin
        go_wp2_with fail
        refine INC.out.mono ?_
        rintro e wx ⟨rfl, rfl⟩
        go_wp2_with fail
        go_roundw
        case rel => exact ⟨j + 1, _, dn, rfl, h1, by go_num, hres2.out, ROW.out, BL.out⟩
        case measure => simp [intOf]; omega
      | false =>
        rw [hin] at INC hres
        have hres2 := Lib.hid (show addAll (dn ++ [t]) (xs.drop (j + 1)) = R from hres)
        have LEN : Hid (dn.length + 1 ≤ 100000) := Lib.hid (by
          have h := addAll_ge (xs.drop (j + 1)) (dn ++ [t])
          rw [hres2.out] at h
          have := LR.out
          simp at h
          omega)
        clear hres hin
        have bo : Below wo.heap.size wo (wo.alloc (.cells #[.string t] 9)) := (Below.refl _ _).alloc (Nat.le_refl _) _
        have R1 := Lib.hid (ROW.out.after bo)
        have BO := Lib.hid (BL.out.alloc BL.out.size (.cells #[.string t] 9))
        unfold SRow at R1
        clear bo
        go_wp2_with fail
        refine INC.out.mono ?_
        rintro e wx ⟨rfl, rfl⟩
        go_wp2_with (first
          | (at_builtin; refine wpList_append_any _ rfl _ _ 31 rfl w1.heap.size 9 i0 (.string ByteArray.empty) 1 16 Try.underlying31 HIN.out.1 HIN.out.2.1 HIN.out.2.2.1 HIN.out.2.2.2 rfl (by decide) _ _ _ rfl R1.out (some ⟨wo.heap.size, 0, none⟩) 1 1 [.string t] rfl rfl (fun _ => ⟨_, rfl, cell_one_new _ _ _⟩) (strCells_one [t]) (by have := LEN.out; unfold maxLen; omega) (by have := LEN.out; omega) BO.out.size ?_; intro p' cap' w3 hown hgrow hloc; have HO3 := Lib.hid hown; have HG3 := Lib.hid hgrow; clear hown hgrow hloc)
          | go_in)
        go_roundw
        case rel =>
          refine ⟨j + 1, _, dn ++ [t], rfl, h1, by go_num, hres2.out, ?_, BO.out.grown HG3.out BO.out.size (fun q hq => (World.ownsRow.there R1.out hq).1)⟩
          unfold SRow
          rw [List.length_append, strCells_append]
          exact HO3.out
        case measure => simp [intOf]; omega
    · obtain rfl : j = A := by omega
      have e : dn = R := by
        rw [← hres, HAL.out, List.drop_length]
        rfl
      subst e
      clear hres
      go_wp2_with fail
      go_ret
      exact ⟨_, rfl, ROW.out.at, B1.out.trans (BL.out.mono B1.out.size)⟩
end Go.Proofs.Ytlalnmefppbebaa
