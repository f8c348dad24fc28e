/- The document's free: lets, recs. -/
import Derived.Test.YtlalnmefppbebaaSynZd
import Derived.Test.YtlalnmefppbebaaSynT
namespace Go.Proofs.Ytlalnmefppbebaa
open Go.RowKit Go.Proofs.TreeMath
theorem bk1 {A z : World} (b : Below A.heap.size A z) : Below A.heap.size A z := b
theorem bk2 {A z : World} (b : Below A.drew.heap.size A.drew z) : Below A.heap.size A z := (Below.refl A.heap.size A).drew.trans b
theorem bk3 {A z : World} {o : Obj} (b : Below (A.alloc o).heap.size (A.alloc o) z) : Below A.heap.size A z := ((Below.refl A.heap.size A).alloc (Nat.le_refl _) o).trans (b.mono (by simp))
theorem bk4 {A z : World} {o : Obj} (b : Below (A.alloc o).drew.heap.size (A.alloc o).drew z) : Below A.heap.size A z := bk3 (bk2 b)
theorem bk5 {A z : World} {o : Obj} (b : Below (A.drew.alloc o).heap.size (A.drew.alloc o) z) : Below A.heap.size A z := bk2 (bk3 b)
set_option maxRecDepth 100000 in
set_option maxHeartbeats 8000000 in
theorem rfree_let (b off n c I q0 q1 : Nat) (t0 : ByteArray) (m0 d0 : Int) (s0 s1 : List ByteArray) (w : World) (hI : I < n)
    (c0 : w.cell? ⟨b, off + I * 4, none⟩ = some (.int .i64 7)) (c1 : w.cell? ⟨b, off + I * 4 + 1, none⟩ = some (.string t0)) (c2 : w.cell? ⟨b, off + I * 4 + 2, none⟩ = some (.int .i64 m0)) (c3 : w.cell? ⟨b, off + I * 4 + 3, none⟩ = some (.int .i64 d0))
    (KIDS : Hid (∀ W, Below w.heap.size w W → Calls Try.prog 42 #[.slice (some ⟨b, off, none⟩) n c, .int .i64 (I : Int)] W (KRet W [(q0 : Int), (q1 : Int)])))
    (F0 : Hid (FreeAt b off n c q0 s0 w)) (F1 : Hid (FreeAt b off n c q1 s1 w)) (LS : Hid Less) (h0 : Hid (s0.length ≤ 40000)) (h1 : Hid (s1.length ≤ 40000)) :
    Calls Try.prog 41 #[.slice (some ⟨b, off, none⟩) n c, .int .i64 (I : Int)] w (SOwn (s0 ++ lessL s1 [t0]) w) := by
  have hin : ((I : Int) < (n : Int)) := by omega
  have LSS : Hid (∀ va vb xs bs W, StrsAt W va xs → StrsAt W vb bs → xs.length ≤ 100000 → Calls Try.prog 70 #[va, vb] W (SOwn (lessL xs bs) W)) := LS
  have BA := Lib.hid (show Below w.heap.size w (w.alloc (.cells #[.int .i64 7, .string t0, .int .i64 m0, .int .i64 d0] 42)) from (Below.refl _ _).alloc (Nat.le_refl _) _)
  have KK := Lib.hid (KIDS.out _ BA.out)
  have X1 : Hid ((w.alloc (.cells #[.int .i64 7, .string t0, .int .i64 m0, .int .i64 d0] 42)).cell? ⟨w.heap.size, 0, none⟩ = some (.int .i64 7) ∧ (w.alloc (.cells #[.int .i64 7, .string t0, .int .i64 m0, .int .i64 d0] 42)).cell? ⟨w.heap.size, 1, none⟩ = some (.string t0)) := Lib.hid ⟨by simp, by simp⟩
  have hsz : w.heap.size < (w.alloc (.cells #[.int .i64 7, .string t0, .int .i64 m0, .int .i64 d0] 42)).heap.size := by simp
  obtain ⟨i0, hi0, hz0, hz1, hz2⟩ := infoStr
  have HIN := Lib.hid (And.intro hi0 (And.intro hz0 (And.intro hz1 hz2)))
  clear hi0 hz0 hz1 hz2
  go_enter Try.func41, Try.ntmps41
  go_wp2_with fail
  refine KK.out.mono ?_
  rintro e w2 ⟨kv, rfl, hkv, b2⟩
  obtain ⟨kp, kc, rfl, hs⟩ := ints_cells hkv
  obtain ⟨kb, ko, rfl, hkb, hkc⟩ := hs (by simp)
  have k0 := hkc.int 0 (by simp)
  simp only [Nat.add_zero, List.getD_cons_zero] at k0
  have k1 := hkc.int 1 (by simp)
  simp only [List.getD_cons_zero, List.getD_cons_succ] at k1
  have x0 := (b2.cell (p := ⟨w.heap.size, 0, none⟩) hsz).trans X1.out.1
  have x1 := (b2.cell (p := ⟨w.heap.size, 1, none⟩) hsz).trans X1.out.2
  have B2 := Lib.hid (BA.out.trans (b2.mono BA.out.size))
  have SS : Hid (∀ W, Below w2.heap.size w2 W → W.cell? ⟨kb, ko, none⟩ = some (.int .i64 (q0 : Int)) ∧ W.cell? ⟨kb, ko + 1, none⟩ = some (.int .i64 (q1 : Int)) ∧ W.cell? ⟨w.heap.size, 1, none⟩ = some (.string t0)) := Lib.hid fun W hW => ⟨(hW.cell (p := ⟨kb, ko, none⟩) hkb).trans k0, (hW.cell (p := ⟨kb, ko + 1, none⟩) hkb).trans k1, (hW.cell (p := ⟨w.heap.size, 1, none⟩) (Nat.lt_of_lt_of_le hsz b2.size)).trans x1⟩
  have FF0 := Lib.hid (fun W (hW : Below w2.heap.size w2 W) => F0.out W (below_next B2.out hW))
  have FF1 := Lib.hid (fun W (hW : Below w2.heap.size w2 W) => F1.out W (below_next B2.out hW))
  have HKN := Lib.hid (show kb < w2.heap.size ∧ w.heap.size < w2.heap.size from ⟨hkb, Nat.lt_of_lt_of_le hsz b2.size⟩)
  have GG : Hid (∀ (W w7 : World) (v : Value), (∀ g, v.ownBlock = some g → w2.heap.size ≤ g) → Below w2.heap.size w2 W → W.grownBy w7 v.ownBlock → (w7.cell? ⟨kb, ko, none⟩ = some (.int .i64 (q0 : Int)) ∧ w7.cell? ⟨kb, ko + 1, none⟩ = some (.int .i64 (q1 : Int)) ∧ w7.cell? ⟨w.heap.size, 1, none⟩ = some (.string t0)) ∧ Below w2.heap.size w2 w7) := Lib.hid fun W w7 v hv hW hg =>
    have hS := SS.out W hW
    have n1 : some kb ≠ v.ownBlock := fun e => by have := hv _ e.symm; have := HKN.out.1; omega
    have n2 : some w.heap.size ≠ v.ownBlock := fun e => by have := hv _ e.symm; have := HKN.out.2; omega
    ⟨⟨hg.cell hS.1 n1, hg.cell hS.2.1 n1, hg.cell hS.2.2 n2⟩, hW.grown hg hW.size fun g hgg => hv g hgg⟩
  have LEN := Lib.hid (show s0.length + s1.length ≤ 80000 ∧ s0.length + (lessL s1 [t0]).length ≤ 80000 from ⟨by have := h0.out; have := h1.out; omega, by have := h0.out; have := h1.out; have := List.length_filter_le (fun s => !inB s [t0]) s1; unfold lessL; omega⟩)
  clear hkv hkb hkc hs b2 hsz
  go_wp2_with fail
  go_region_held3 (fun W => W.cell? ⟨kb, ko, none⟩ = some (.int .i64 (q0 : Int)) ∧ W.cell? ⟨kb, ko + 1, none⟩ = some (.int .i64 (q1 : Int)) ∧ W.cell? ⟨w.heap.size, 1, none⟩ = some (.string t0)) (first | exact hS7 | exact SS.out _ (by repeat' (first | assumption | exact Below.refl _ _ | apply Below.drew | (refine Below.alloc ?_ ?_ _) | exact Nat.le_refl _ | (exact Below.size (by assumption)) | (simp; done))) | fail) ((first
    | (go_at_call 41; (with_reducible refine Calls.mono (FF0.out _ ?_) ?_); (exact (by repeat' (first | assumption | exact Below.refl _ _ | apply Below.drew | (refine Below.alloc ?_ ?_ _) | exact Nat.le_refl _ | (exact Below.size (by assumption)) | (simp; done)))); rintro e wA ⟨v0, rfl, r3, b3⟩; (try (have R1 := Lib.hid (SRow.after R1.out (show Below wB.heap.size wB _ from (by first | exact bk1 b3 | exact bk2 b3 | exact bk3 b3 | exact bk4 b3 | exact bk5 b3))))); (try (have R1 := Lib.hid (SRow.after R1.out (show Below wL.heap.size wL _ from (by first | exact bk1 b3 | exact bk2 b3 | exact bk3 b3 | exact bk4 b3 | exact bk5 b3))))); (try (have R9 := Lib.hid (SRow.after R9.out (show Below wB.heap.size wB _ from (by first | exact bk1 b3 | exact bk2 b3 | exact bk3 b3 | exact bk4 b3 | exact bk5 b3))))); (try (have R9 := Lib.hid (SRow.after R9.out (show Below wL.heap.size wL _ from (by first | exact bk1 b3 | exact bk2 b3 | exact bk3 b3 | exact bk4 b3 | exact bk5 b3))))); (try (have T0 := Lib.hid (StrsAt.below T0.out (show Below wB.heap.size wB _ from (by first | exact bk1 b3 | exact bk2 b3 | exact bk3 b3 | exact bk4 b3 | exact bk5 b3))))); (try (have T0 := Lib.hid (StrsAt.below T0.out (show Below wL.heap.size wL _ from (by first | exact bk1 b3 | exact bk2 b3 | exact bk3 b3 | exact bk4 b3 | exact bk5 b3))))); (try (have T0 := Lib.hid (lit_k (Y := w2) (by first | exact bk1 b3 | exact bk2 b3)))); (try (have T0 := Lib.hid (lit_k (Y := w2.drew) (by first | exact bk1 b3 | exact bk2 b3)))); (try (have T0 := Lib.hid (lit_k (Y := wB) (by first | exact bk1 b3 | exact bk2 b3)))); (try (have T0 := Lib.hid (lit_k (Y := wB.drew) (by first | exact bk1 b3 | exact bk2 b3)))); have bwA' : Below w2.heap.size w2 wA := below_next (by repeat' (first | assumption | exact Below.refl _ _ | apply Below.drew | (refine Below.alloc ?_ ?_ _) | exact Nat.le_refl _ | (exact Below.size (by assumption)) | (simp; done))) b3; obtain ⟨p0, c0', rfl⟩ := strs_form' r3.at; have R0 := Lib.hid (World.ownsRow.base r3 (Below.size (show Below w2.heap.size w2 _ from (by repeat' (first | assumption | exact Below.refl _ _ | apply Below.drew | (refine Below.alloc ?_ ?_ _) | exact Nat.le_refl _ | (exact Below.size (by assumption)) | (simp; done)))))); clear r3 b3)
    | (go_at_call 41; (with_reducible refine Calls.mono (FF1.out _ ?_) ?_); (exact (by repeat' (first | assumption | exact Below.refl _ _ | apply Below.drew | (refine Below.alloc ?_ ?_ _) | exact Nat.le_refl _ | (exact Below.size (by assumption)) | (simp; done)))); rintro e wB ⟨v1, rfl, r3, b3⟩; (try (have R0 := Lib.hid (SRow.after R0.out (show Below wA.heap.size wA _ from (by first | exact bk1 b3 | exact bk2 b3 | exact bk3 b3 | exact bk4 b3 | exact bk5 b3))))); (try (have R0 := Lib.hid (SRow.after R0.out (show Below wL.heap.size wL _ from (by first | exact bk1 b3 | exact bk2 b3 | exact bk3 b3 | exact bk4 b3 | exact bk5 b3))))); (try (have R9 := Lib.hid (SRow.after R9.out (show Below wA.heap.size wA _ from (by first | exact bk1 b3 | exact bk2 b3 | exact bk3 b3 | exact bk4 b3 | exact bk5 b3))))); (try (have R9 := Lib.hid (SRow.after R9.out (show Below wL.heap.size wL _ from (by first | exact bk1 b3 | exact bk2 b3 | exact bk3 b3 | exact bk4 b3 | exact bk5 b3))))); (try (have T0 := Lib.hid (StrsAt.below T0.out (show Below wA.heap.size wA _ from (by first | exact bk1 b3 | exact bk2 b3 | exact bk3 b3 | exact bk4 b3 | exact bk5 b3))))); (try (have T0 := Lib.hid (StrsAt.below T0.out (show Below wL.heap.size wL _ from (by first | exact bk1 b3 | exact bk2 b3 | exact bk3 b3 | exact bk4 b3 | exact bk5 b3))))); (try (have T0 := Lib.hid (lit_k (Y := w2) (by first | exact bk1 b3 | exact bk2 b3)))); (try (have T0 := Lib.hid (lit_k (Y := w2.drew) (by first | exact bk1 b3 | exact bk2 b3)))); (try (have T0 := Lib.hid (lit_k (Y := wA) (by first | exact bk1 b3 | exact bk2 b3)))); (try (have T0 := Lib.hid (lit_k (Y := wA.drew) (by first | exact bk1 b3 | exact bk2 b3)))); have bwB' : Below w2.heap.size w2 wB := below_next (by repeat' (first | assumption | exact Below.refl _ _ | apply Below.drew | (refine Below.alloc ?_ ?_ _) | exact Nat.le_refl _ | (exact Below.size (by assumption)) | (simp; done))) b3; obtain ⟨p1, c1', rfl⟩ := strs_form' r3.at; have R1 := Lib.hid (World.ownsRow.base r3 (Below.size (show Below w2.heap.size w2 _ from (by repeat' (first | assumption | exact Below.refl _ _ | apply Below.drew | (refine Below.alloc ?_ ?_ _) | exact Nat.le_refl _ | (exact Below.size (by assumption)) | (simp; done)))))); clear r3 b3)
    | (go_at_call 70; (with_reducible refine Calls.mono (LSS.out _ _ s1 [t0] _ ?_ ?_ ?_) ?_); (exact SRow.at (SRow.after R1.out (by repeat' (first | exact Below.refl _ _ | apply Below.drew | (refine Below.alloc ?_ ?_ _) | exact Nat.le_refl _ | (simp; done))))); (first | exact StrsAt.below T0.out (by repeat' (first | exact Below.refl _ _ | apply Below.drew | (refine Below.alloc ?_ ?_ _) | exact Nat.le_refl _ | (simp; done))) | exact (text_row _ t0).at); (exact Nat.le_trans h1.out (by decide)); rintro e wL ⟨v9, rfl, r3, b3⟩; (try (have R0 := Lib.hid (SRow.after R0.out (show Below wA.heap.size wA _ from (by first | exact bk1 b3 | exact bk2 b3 | exact bk3 b3 | exact bk4 b3 | exact bk5 b3))))); (try (have R0 := Lib.hid (SRow.after R0.out (show Below wB.heap.size wB _ from (by first | exact bk1 b3 | exact bk2 b3 | exact bk3 b3 | exact bk4 b3 | exact bk5 b3))))); have bwL' : Below w2.heap.size w2 wL := below_next (by repeat' (first | assumption | exact Below.refl _ _ | apply Below.drew | (refine Below.alloc ?_ ?_ _) | exact Nat.le_refl _ | (exact Below.size (by assumption)) | (simp; done))) b3; obtain ⟨p9, c9, rfl⟩ := strs_form' r3.at; have R9 := Lib.hid (World.ownsRow.base r3 (Below.size (show Below w2.heap.size w2 _ from (by repeat' (first | assumption | exact Below.refl _ _ | apply Below.drew | (refine Below.alloc ?_ ?_ _) | exact Nat.le_refl _ | (exact Below.size (by assumption)) | (simp; done)))))); clear r3 b3)
    | (refine step_append_any (by rfl) _ _ 31 (by rfl) w2.heap.size 9 i0 (.string ByteArray.empty) 1 16 Try.underlying31 HIN.out.1 HIN.out.2.1 HIN.out.2.2.1 HIN.out.2.2.2 rfl (by decide) _ s0.length (strCells s0) rfl (SRow.after R0.out (by repeat' (first | exact Below.refl _ _ | apply Below.drew | (refine Below.alloc ?_ ?_ _) | exact Nat.le_refl _ | (simp; done)))) p9 (lessL s1 [t0]).length c9 (strCells (lessL s1 [t0])) rfl (by rw [length_strCells]) (strs_src (SRow.at (SRow.after R9.out (by repeat' (first | exact Below.refl _ _ | apply Below.drew | (refine Below.alloc ?_ ?_ _) | exact Nat.le_refl _ | (simp; done)))))).2 (strCells_one _) (by have := LEN.out; unfold maxLen; omega) (by have := LEN.out; omega) (Below.size (show Below w2.heap.size w2 _ from (by repeat' (first | assumption | exact Below.refl _ _ | apply Below.drew | (refine Below.alloc ?_ ?_ _) | exact Nat.le_refl _ | (exact Below.size (by assumption)) | (simp; done))))) ?_; intro p8 cap8 w7 hown hgrow hblk; have hG := GG.out _ _ _ (fun g hg => (World.ownsRow.there R0.out hg).1) (by repeat' (first | assumption | exact Below.refl _ _ | apply Below.drew | (refine Below.alloc ?_ ?_ _) | exact Nat.le_refl _ | (exact Below.size (by assumption)) | (simp; done))) hgrow; have hS7 := hG.1; have R8 := Lib.hid hown; have bw7' := hG.2; clear hown hgrow hblk hG)
    | fail))
  all_goals
    have BF := Lib.hid (below_next B2.out bw7')
    go_wp2_with fail
    go_ret
    refine ⟨_, rfl, ?_, BF.out⟩
    unfold SRow
    rw [List.length_append, strCells_append]
    exact World.ownsRow.base R8.out B2.out.size
set_option maxRecDepth 100000 in
set_option maxHeartbeats 8000000 in
theorem rfree_try (b off n c I q0 q1 : Nat) (t0 : ByteArray) (m0 d0 : Int) (s0 s1 : List ByteArray) (w : World) (hI : I < n)
    (c0 : w.cell? ⟨b, off + I * 4, none⟩ = some (.int .i64 12)) (c1 : w.cell? ⟨b, off + I * 4 + 1, none⟩ = some (.string t0)) (c2 : w.cell? ⟨b, off + I * 4 + 2, none⟩ = some (.int .i64 m0)) (c3 : w.cell? ⟨b, off + I * 4 + 3, none⟩ = some (.int .i64 d0))
    (KIDS : Hid (∀ W, Below w.heap.size w W → Calls Try.prog 42 #[.slice (some ⟨b, off, none⟩) n c, .int .i64 (I : Int)] W (KRet W [(q0 : Int), (q1 : Int)])))
    (F0 : Hid (FreeAt b off n c q0 s0 w)) (F1 : Hid (FreeAt b off n c q1 s1 w)) (LS : Hid Less) (h0 : Hid (s0.length ≤ 40000)) (h1 : Hid (s1.length ≤ 40000)) :
    Calls Try.prog 41 #[.slice (some ⟨b, off, none⟩) n c, .int .i64 (I : Int)] w (SOwn (s0 ++ lessL s1 [t0]) w) := by
  have hin : ((I : Int) < (n : Int)) := by omega
  have LSS : Hid (∀ va vb xs bs W, StrsAt W va xs → StrsAt W vb bs → xs.length ≤ 100000 → Calls Try.prog 70 #[va, vb] W (SOwn (lessL xs bs) W)) := LS
  have BA := Lib.hid (show Below w.heap.size w (w.alloc (.cells #[.int .i64 12, .string t0, .int .i64 m0, .int .i64 d0] 42)) from (Below.refl _ _).alloc (Nat.le_refl _) _)
  have KK := Lib.hid (KIDS.out _ BA.out)
  have X1 : Hid ((w.alloc (.cells #[.int .i64 12, .string t0, .int .i64 m0, .int .i64 d0] 42)).cell? ⟨w.heap.size, 0, none⟩ = some (.int .i64 12) ∧ (w.alloc (.cells #[.int .i64 12, .string t0, .int .i64 m0, .int .i64 d0] 42)).cell? ⟨w.heap.size, 1, none⟩ = some (.string t0)) := Lib.hid ⟨by simp, by simp⟩
  have hsz : w.heap.size < (w.alloc (.cells #[.int .i64 12, .string t0, .int .i64 m0, .int .i64 d0] 42)).heap.size := by simp
  obtain ⟨i0, hi0, hz0, hz1, hz2⟩ := infoStr
  have HIN := Lib.hid (And.intro hi0 (And.intro hz0 (And.intro hz1 hz2)))
  clear hi0 hz0 hz1 hz2
  go_enter Try.func41, Try.ntmps41
  go_wp2_with fail
  refine KK.out.mono ?_
  rintro e w2 ⟨kv, rfl, hkv, b2⟩
  obtain ⟨kp, kc, rfl, hs⟩ := ints_cells hkv
  obtain ⟨kb, ko, rfl, hkb, hkc⟩ := hs (by simp)
  have k0 := hkc.int 0 (by simp)
  simp only [Nat.add_zero, List.getD_cons_zero] at k0
  have k1 := hkc.int 1 (by simp)
  simp only [List.getD_cons_zero, List.getD_cons_succ] at k1
  have x0 := (b2.cell (p := ⟨w.heap.size, 0, none⟩) hsz).trans X1.out.1
  have x1 := (b2.cell (p := ⟨w.heap.size, 1, none⟩) hsz).trans X1.out.2
  have B2 := Lib.hid (BA.out.trans (b2.mono BA.out.size))
  have SS : Hid (∀ W, Below w2.heap.size w2 W → W.cell? ⟨kb, ko, none⟩ = some (.int .i64 (q0 : Int)) ∧ W.cell? ⟨kb, ko + 1, none⟩ = some (.int .i64 (q1 : Int)) ∧ W.cell? ⟨w.heap.size, 1, none⟩ = some (.string t0)) := Lib.hid fun W hW => ⟨(hW.cell (p := ⟨kb, ko, none⟩) hkb).trans k0, (hW.cell (p := ⟨kb, ko + 1, none⟩) hkb).trans k1, (hW.cell (p := ⟨w.heap.size, 1, none⟩) (Nat.lt_of_lt_of_le hsz b2.size)).trans x1⟩
  have FF0 := Lib.hid (fun W (hW : Below w2.heap.size w2 W) => F0.out W (below_next B2.out hW))
  have FF1 := Lib.hid (fun W (hW : Below w2.heap.size w2 W) => F1.out W (below_next B2.out hW))
  have HKN := Lib.hid (show kb < w2.heap.size ∧ w.heap.size < w2.heap.size from ⟨hkb, Nat.lt_of_lt_of_le hsz b2.size⟩)
  have GG : Hid (∀ (W w7 : World) (v : Value), (∀ g, v.ownBlock = some g → w2.heap.size ≤ g) → Below w2.heap.size w2 W → W.grownBy w7 v.ownBlock → (w7.cell? ⟨kb, ko, none⟩ = some (.int .i64 (q0 : Int)) ∧ w7.cell? ⟨kb, ko + 1, none⟩ = some (.int .i64 (q1 : Int)) ∧ w7.cell? ⟨w.heap.size, 1, none⟩ = some (.string t0)) ∧ Below w2.heap.size w2 w7) := Lib.hid fun W w7 v hv hW hg =>
    have hS := SS.out W hW
    have n1 : some kb ≠ v.ownBlock := fun e => by have := hv _ e.symm; have := HKN.out.1; omega
    have n2 : some w.heap.size ≠ v.ownBlock := fun e => by have := hv _ e.symm; have := HKN.out.2; omega
    ⟨⟨hg.cell hS.1 n1, hg.cell hS.2.1 n1, hg.cell hS.2.2 n2⟩, hW.grown hg hW.size fun g hgg => hv g hgg⟩
  have LEN := Lib.hid (show s0.length + s1.length ≤ 80000 ∧ s0.length + (lessL s1 [t0]).length ≤ 80000 from ⟨by have := h0.out; have := h1.out; omega, by have := h0.out; have := h1.out; have := List.length_filter_le (fun s => !inB s [t0]) s1; unfold lessL; omega⟩)
  clear hkv hkb hkc hs b2 hsz
  go_wp2_with fail
  go_region_held3 (fun W => W.cell? ⟨kb, ko, none⟩ = some (.int .i64 (q0 : Int)) ∧ W.cell? ⟨kb, ko + 1, none⟩ = some (.int .i64 (q1 : Int)) ∧ W.cell? ⟨w.heap.size, 1, none⟩ = some (.string t0)) (first | exact hS7 | exact SS.out _ (by repeat' (first | assumption | exact Below.refl _ _ | apply Below.drew | (refine Below.alloc ?_ ?_ _) | exact Nat.le_refl _ | (exact Below.size (by assumption)) | (simp; done))) | fail) ((first
    | (go_at_call 41; (with_reducible refine Calls.mono (FF0.out _ ?_) ?_); (exact (by repeat' (first | assumption | exact Below.refl _ _ | apply Below.drew | (refine Below.alloc ?_ ?_ _) | exact Nat.le_refl _ | (exact Below.size (by assumption)) | (simp; done)))); rintro e wA ⟨v0, rfl, r3, b3⟩; (try (have R1 := Lib.hid (SRow.after R1.out (show Below wB.heap.size wB _ from (by first | exact bk1 b3 | exact bk2 b3 | exact bk3 b3 | exact bk4 b3 | exact bk5 b3))))); (try (have R1 := Lib.hid (SRow.after R1.out (show Below wL.heap.size wL _ from (by first | exact bk1 b3 | exact bk2 b3 | exact bk3 b3 | exact bk4 b3 | exact bk5 b3))))); (try (have R9 := Lib.hid (SRow.after R9.out (show Below wB.heap.size wB _ from (by first | exact bk1 b3 | exact bk2 b3 | exact bk3 b3 | exact bk4 b3 | exact bk5 b3))))); (try (have R9 := Lib.hid (SRow.after R9.out (show Below wL.heap.size wL _ from (by first | exact bk1 b3 | exact bk2 b3 | exact bk3 b3 | exact bk4 b3 | exact bk5 b3))))); (try (have T0 := Lib.hid (StrsAt.below T0.out (show Below wB.heap.size wB _ from (by first | exact bk1 b3 | exact bk2 b3 | exact bk3 b3 | exact bk4 b3 | exact bk5 b3))))); (try (have T0 := Lib.hid (StrsAt.below T0.out (show Below wL.heap.size wL _ from (by first | exact bk1 b3 | exact bk2 b3 | exact bk3 b3 | exact bk4 b3 | exact bk5 b3))))); (try (have T0 := Lib.hid (lit_k (Y := w2) (by first | exact bk1 b3 | exact bk2 b3)))); (try (have T0 := Lib.hid (lit_k (Y := w2.drew) (by first | exact bk1 b3 | exact bk2 b3)))); (try (have T0 := Lib.hid (lit_k (Y := wB) (by first | exact bk1 b3 | exact bk2 b3)))); (try (have T0 := Lib.hid (lit_k (Y := wB.drew) (by first | exact bk1 b3 | exact bk2 b3)))); have bwA' : Below w2.heap.size w2 wA := below_next (by repeat' (first | assumption | exact Below.refl _ _ | apply Below.drew | (refine Below.alloc ?_ ?_ _) | exact Nat.le_refl _ | (exact Below.size (by assumption)) | (simp; done))) b3; obtain ⟨p0, c0', rfl⟩ := strs_form' r3.at; have R0 := Lib.hid (World.ownsRow.base r3 (Below.size (show Below w2.heap.size w2 _ from (by repeat' (first | assumption | exact Below.refl _ _ | apply Below.drew | (refine Below.alloc ?_ ?_ _) | exact Nat.le_refl _ | (exact Below.size (by assumption)) | (simp; done)))))); clear r3 b3)
    | (go_at_call 41; (with_reducible refine Calls.mono (FF1.out _ ?_) ?_); (exact (by repeat' (first | assumption | exact Below.refl _ _ | apply Below.drew | (refine Below.alloc ?_ ?_ _) | exact Nat.le_refl _ | (exact Below.size (by assumption)) | (simp; done)))); rintro e wB ⟨v1, rfl, r3, b3⟩; (try (have R0 := Lib.hid (SRow.after R0.out (show Below wA.heap.size wA _ from (by first | exact bk1 b3 | exact bk2 b3 | exact bk3 b3 | exact bk4 b3 | exact bk5 b3))))); (try (have R0 := Lib.hid (SRow.after R0.out (show Below wL.heap.size wL _ from (by first | exact bk1 b3 | exact bk2 b3 | exact bk3 b3 | exact bk4 b3 | exact bk5 b3))))); (try (have R9 := Lib.hid (SRow.after R9.out (show Below wA.heap.size wA _ from (by first | exact bk1 b3 | exact bk2 b3 | exact bk3 b3 | exact bk4 b3 | exact bk5 b3))))); (try (have R9 := Lib.hid (SRow.after R9.out (show Below wL.heap.size wL _ from (by first | exact bk1 b3 | exact bk2 b3 | exact bk3 b3 | exact bk4 b3 | exact bk5 b3))))); (try (have T0 := Lib.hid (StrsAt.below T0.out (show Below wA.heap.size wA _ from (by first | exact bk1 b3 | exact bk2 b3 | exact bk3 b3 | exact bk4 b3 | exact bk5 b3))))); (try (have T0 := Lib.hid (StrsAt.below T0.out (show Below wL.heap.size wL _ from (by first | exact bk1 b3 | exact bk2 b3 | exact bk3 b3 | exact bk4 b3 | exact bk5 b3))))); (try (have T0 := Lib.hid (lit_k (Y := w2) (by first | exact bk1 b3 | exact bk2 b3)))); (try (have T0 := Lib.hid (lit_k (Y := w2.drew) (by first | exact bk1 b3 | exact bk2 b3)))); (try (have T0 := Lib.hid (lit_k (Y := wA) (by first | exact bk1 b3 | exact bk2 b3)))); (try (have T0 := Lib.hid (lit_k (Y := wA.drew) (by first | exact bk1 b3 | exact bk2 b3)))); have bwB' : Below w2.heap.size w2 wB := below_next (by repeat' (first | assumption | exact Below.refl _ _ | apply Below.drew | (refine Below.alloc ?_ ?_ _) | exact Nat.le_refl _ | (exact Below.size (by assumption)) | (simp; done))) b3; obtain ⟨p1, c1', rfl⟩ := strs_form' r3.at; have R1 := Lib.hid (World.ownsRow.base r3 (Below.size (show Below w2.heap.size w2 _ from (by repeat' (first | assumption | exact Below.refl _ _ | apply Below.drew | (refine Below.alloc ?_ ?_ _) | exact Nat.le_refl _ | (exact Below.size (by assumption)) | (simp; done)))))); clear r3 b3)
    | (go_at_call 70; (with_reducible refine Calls.mono (LSS.out _ _ s1 [t0] _ ?_ ?_ ?_) ?_); (exact SRow.at (SRow.after R1.out (by repeat' (first | exact Below.refl _ _ | apply Below.drew | (refine Below.alloc ?_ ?_ _) | exact Nat.le_refl _ | (simp; done))))); (first | exact StrsAt.below T0.out (by repeat' (first | exact Below.refl _ _ | apply Below.drew | (refine Below.alloc ?_ ?_ _) | exact Nat.le_refl _ | (simp; done))) | exact (text_row _ t0).at); (exact Nat.le_trans h1.out (by decide)); rintro e wL ⟨v9, rfl, r3, b3⟩; (try (have R0 := Lib.hid (SRow.after R0.out (show Below wA.heap.size wA _ from (by first | exact bk1 b3 | exact bk2 b3 | exact bk3 b3 | exact bk4 b3 | exact bk5 b3))))); (try (have R0 := Lib.hid (SRow.after R0.out (show Below wB.heap.size wB _ from (by first | exact bk1 b3 | exact bk2 b3 | exact bk3 b3 | exact bk4 b3 | exact bk5 b3))))); have bwL' : Below w2.heap.size w2 wL := below_next (by repeat' (first | assumption | exact Below.refl _ _ | apply Below.drew | (refine Below.alloc ?_ ?_ _) | exact Nat.le_refl _ | (exact Below.size (by assumption)) | (simp; done))) b3; obtain ⟨p9, c9, rfl⟩ := strs_form' r3.at; have R9 := Lib.hid (World.ownsRow.base r3 (Below.size (show Below w2.heap.size w2 _ from (by repeat' (first | assumption | exact Below.refl _ _ | apply Below.drew | (refine Below.alloc ?_ ?_ _) | exact Nat.le_refl _ | (exact Below.size (by assumption)) | (simp; done)))))); clear r3 b3)
    | (refine step_append_any (by rfl) _ _ 31 (by rfl) w2.heap.size 9 i0 (.string ByteArray.empty) 1 16 Try.underlying31 HIN.out.1 HIN.out.2.1 HIN.out.2.2.1 HIN.out.2.2.2 rfl (by decide) _ s0.length (strCells s0) rfl (SRow.after R0.out (by repeat' (first | exact Below.refl _ _ | apply Below.drew | (refine Below.alloc ?_ ?_ _) | exact Nat.le_refl _ | (simp; done)))) p9 (lessL s1 [t0]).length c9 (strCells (lessL s1 [t0])) rfl (by rw [length_strCells]) (strs_src (SRow.at (SRow.after R9.out (by repeat' (first | exact Below.refl _ _ | apply Below.drew | (refine Below.alloc ?_ ?_ _) | exact Nat.le_refl _ | (simp; done)))))).2 (strCells_one _) (by have := LEN.out; unfold maxLen; omega) (by have := LEN.out; omega) (Below.size (show Below w2.heap.size w2 _ from (by repeat' (first | assumption | exact Below.refl _ _ | apply Below.drew | (refine Below.alloc ?_ ?_ _) | exact Nat.le_refl _ | (exact Below.size (by assumption)) | (simp; done))))) ?_; intro p8 cap8 w7 hown hgrow hblk; have hG := GG.out _ _ _ (fun g hg => (World.ownsRow.there R0.out hg).1) (by repeat' (first | assumption | exact Below.refl _ _ | apply Below.drew | (refine Below.alloc ?_ ?_ _) | exact Nat.le_refl _ | (exact Below.size (by assumption)) | (simp; done))) hgrow; have hS7 := hG.1; have R8 := Lib.hid hown; have bw7' := hG.2; clear hown hgrow hblk hG)
    | fail))
  all_goals
    have BF := Lib.hid (below_next B2.out bw7')
    go_wp2_with fail
    go_ret
    refine ⟨_, rfl, ?_, BF.out⟩
    unfold SRow
    rw [List.length_append, strCells_append]
    exact World.ownsRow.base R8.out B2.out.size
end Go.Proofs.Ytlalnmefppbebaa

/- The document's free: recs. -/
namespace Go.Proofs.Ytlalnmefppbebaa
open Go.RowKit Go.Proofs.TreeMath
theorem strs_lt {W : World} {a : Nat} {t : ByteArray} (h : StrsAt W (.slice (some ⟨a, 0, none⟩) 1 1) [t]) : a < W.heap.size := by
  obtain ⟨_, q, c, e, _, _, hs⟩ := h
  simp only [Value.slice.injEq] at e
  obtain ⟨b, o, e2, hb, _⟩ := hs (by simp)
  rw [← e.1] at e2
  simp only [Option.some.injEq, Addr.mk.injEq] at e2
  omega
theorem strs_grown {W w7 : World} {row : Option Nat} {a : Nat} {t : ByteArray} (h : StrsAt W (.slice (some ⟨a, 0, none⟩) 1 1) [t]) (hg : W.grownBy w7 row) (ne : ∀ k, row = some k → a ≠ k) : StrsAt w7 (.slice (some ⟨a, 0, none⟩) 1 1) [t] := by
  have hlt := strs_lt h
  obtain ⟨h1, q, c, e, h2, h3, hs⟩ := h
  refine ⟨h1, q, c, e, h2, h3, fun h0 => ?_⟩
  obtain ⟨b, o, e2, hb, hc⟩ := hs h0
  simp only [Value.slice.injEq] at e
  have e3 := e.1
  rw [e2] at e3
  simp only [Option.some.injEq, Addr.mk.injEq] at e3
  obtain ⟨rfl, rfl, _⟩ := e3
  exact ⟨a, 0, e2, Nat.lt_of_lt_of_le hb hg.size, hc.kept (hg.block a hb fun e => ne a e.symm rfl)⟩
theorem nt_pre {X w : World} {a : Nat} {t : ByteArray} {v : Value} {ss : List ByteArray} (h : StrsAt X (.slice (some ⟨a, 0, none⟩) 1 1) [t]) (r : SRow X.heap.size w v ss) : ∀ g, v.ownBlock = some g → a ≠ g := fun g hg e => by
  have h1 := strs_lt h
  have h2 := (World.ownsRow.there r hg).1
  omega
theorem nt_lit {Y w : World} {o : Obj} {v : Value} {ss : List ByteArray} (r : SRow (Y.alloc o).heap.size w v ss) : ∀ g, v.ownBlock = some g → Y.heap.size ≠ g := fun g hg e => by
  have h2 := (World.ownsRow.there r hg).1
  simp at h2
  omega
theorem nt_post {B : Nat} {w : World} {v : Value} {ss : List ByteArray} (r : SRow B w v ss) {a : Nat} (h : w.heap.size ≤ a) : ∀ g, v.ownBlock = some g → a ≠ g := fun g hg e => by
  have h2 := (World.ownsRow.there r hg).2
  omega
theorem srow_app {B : Nat} {w : World} {p : Option Addr} {c : Nat} {a b : List ByteArray} (h : w.ownsRow B 9 1 (.slice p (a.length + b.length) c) (a.length + b.length) (strCells a ++ strCells b)) : SRow B w (.slice p (a.length + b.length) c) (a ++ b) := by
  unfold SRow
  rw [List.length_append, strCells_append]
  exact h
set_option maxRecDepth 100000 in
set_option maxHeartbeats 8000000 in
theorem rfree_rec (b off n c I q0 q1 : Nat) (t0 : ByteArray) (m0 d0 : Int) (s0 s1 : List ByteArray) (w : World) (hI : I < n)
    (c0 : w.cell? ⟨b, off + I * 4, none⟩ = some (.int .i64 8)) (c1 : w.cell? ⟨b, off + I * 4 + 1, none⟩ = some (.string t0)) (c2 : w.cell? ⟨b, off + I * 4 + 2, none⟩ = some (.int .i64 m0)) (c3 : w.cell? ⟨b, off + I * 4 + 3, none⟩ = some (.int .i64 d0))
    (KIDS : Hid (∀ W, Below w.heap.size w W → Calls Try.prog 42 #[.slice (some ⟨b, off, none⟩) n c, .int .i64 (I : Int)] W (KRet W [(q0 : Int), (q1 : Int)])))
    (F0 : Hid (FreeAt b off n c q0 s0 w)) (F1 : Hid (FreeAt b off n c q1 s1 w)) (LS : Hid Less) (h0 : Hid (s0.length ≤ 40000)) (h1 : Hid (s1.length ≤ 40000)) :
    Calls Try.prog 41 #[.slice (some ⟨b, off, none⟩) n c, .int .i64 (I : Int)] w (SOwn (lessL (s0 ++ s1) [t0]) w) := by
  have hin : ((I : Int) < (n : Int)) := by omega
  have LSS : Hid (∀ va vb xs bs W, StrsAt W va xs → StrsAt W vb bs → xs.length ≤ 100000 → Calls Try.prog 70 #[va, vb] W (SOwn (lessL xs bs) W)) := LS
  have BA := Lib.hid (show Below w.heap.size w (w.alloc (.cells #[.int .i64 8, .string t0, .int .i64 m0, .int .i64 d0] 42)) from (Below.refl _ _).alloc (Nat.le_refl _) _)
  have KK := Lib.hid (KIDS.out _ BA.out)
  have X1 : Hid ((w.alloc (.cells #[.int .i64 8, .string t0, .int .i64 m0, .int .i64 d0] 42)).cell? ⟨w.heap.size, 0, none⟩ = some (.int .i64 8) ∧ (w.alloc (.cells #[.int .i64 8, .string t0, .int .i64 m0, .int .i64 d0] 42)).cell? ⟨w.heap.size, 1, none⟩ = some (.string t0)) := Lib.hid ⟨by simp, by simp⟩
  have hsz : w.heap.size < (w.alloc (.cells #[.int .i64 8, .string t0, .int .i64 m0, .int .i64 d0] 42)).heap.size := by simp
  obtain ⟨i0, hi0, hz0, hz1, hz2⟩ := infoStr
  have HIN := Lib.hid (And.intro hi0 (And.intro hz0 (And.intro hz1 hz2)))
  clear hi0 hz0 hz1 hz2
  go_enter Try.func41, Try.ntmps41
  go_wp2_with fail
  refine KK.out.mono ?_
  rintro e w2 ⟨kv, rfl, hkv, b2⟩
  obtain ⟨kp, kc, rfl, hs⟩ := ints_cells hkv
  obtain ⟨kb, ko, rfl, hkb, hkc⟩ := hs (by simp)
  have k0 := hkc.int 0 (by simp)
  simp only [Nat.add_zero, List.getD_cons_zero] at k0
  have k1 := hkc.int 1 (by simp)
  simp only [List.getD_cons_zero, List.getD_cons_succ] at k1
  have x0 := (b2.cell (p := ⟨w.heap.size, 0, none⟩) hsz).trans X1.out.1
  have x1 := (b2.cell (p := ⟨w.heap.size, 1, none⟩) hsz).trans X1.out.2
  have B2 := Lib.hid (BA.out.trans (b2.mono BA.out.size))
  have SS : Hid (∀ W, Below w2.heap.size w2 W → W.cell? ⟨kb, ko, none⟩ = some (.int .i64 (q0 : Int)) ∧ W.cell? ⟨kb, ko + 1, none⟩ = some (.int .i64 (q1 : Int)) ∧ W.cell? ⟨w.heap.size, 1, none⟩ = some (.string t0)) := Lib.hid fun W hW => ⟨(hW.cell (p := ⟨kb, ko, none⟩) hkb).trans k0, (hW.cell (p := ⟨kb, ko + 1, none⟩) hkb).trans k1, (hW.cell (p := ⟨w.heap.size, 1, none⟩) (Nat.lt_of_lt_of_le hsz b2.size)).trans x1⟩
  have FF0 := Lib.hid (fun W (hW : Below w2.heap.size w2 W) => F0.out W (below_next B2.out hW))
  have FF1 := Lib.hid (fun W (hW : Below w2.heap.size w2 W) => F1.out W (below_next B2.out hW))
  have HKN := Lib.hid (show kb < w2.heap.size ∧ w.heap.size < w2.heap.size from ⟨hkb, Nat.lt_of_lt_of_le hsz b2.size⟩)
  have GG : Hid (∀ (W w7 : World) (v : Value), (∀ g, v.ownBlock = some g → w2.heap.size ≤ g) → Below w2.heap.size w2 W → W.grownBy w7 v.ownBlock → (w7.cell? ⟨kb, ko, none⟩ = some (.int .i64 (q0 : Int)) ∧ w7.cell? ⟨kb, ko + 1, none⟩ = some (.int .i64 (q1 : Int)) ∧ w7.cell? ⟨w.heap.size, 1, none⟩ = some (.string t0)) ∧ Below w2.heap.size w2 w7) := Lib.hid fun W w7 v hv hW hg =>
    have hS := SS.out W hW
    have n1 : some kb ≠ v.ownBlock := fun e => by have := hv _ e.symm; have := HKN.out.1; omega
    have n2 : some w.heap.size ≠ v.ownBlock := fun e => by have := hv _ e.symm; have := HKN.out.2; omega
    ⟨⟨hg.cell hS.1 n1, hg.cell hS.2.1 n1, hg.cell hS.2.2 n2⟩, hW.grown hg hW.size fun g hgg => hv g hgg⟩
  have LEN := Lib.hid (show s0.length + s1.length ≤ 80000 ∧ s0.length + (lessL s1 [t0]).length ≤ 80000 from ⟨by have := h0.out; have := h1.out; omega, by have := h0.out; have := h1.out; have := List.length_filter_le (fun s => !inB s [t0]) s1; unfold lessL; omega⟩)
  clear hkv hkb hkc hs b2 hsz
  go_wp2_with fail
  go_region_held3 (fun W => W.cell? ⟨kb, ko, none⟩ = some (.int .i64 (q0 : Int)) ∧ W.cell? ⟨kb, ko + 1, none⟩ = some (.int .i64 (q1 : Int)) ∧ W.cell? ⟨w.heap.size, 1, none⟩ = some (.string t0)) (first | exact hS7 | exact SS.out _ (by repeat' (first | assumption | exact Below.refl _ _ | apply Below.drew | (refine Below.alloc ?_ ?_ _) | exact Nat.le_refl _ | (exact Below.size (by assumption)) | (simp; done))) | fail) ((first
    | (go_at_call 41; (with_reducible refine Calls.mono (FF0.out _ ?_) ?_); (exact (by repeat' (first | assumption | exact Below.refl _ _ | apply Below.drew | (refine Below.alloc ?_ ?_ _) | exact Nat.le_refl _ | (exact Below.size (by assumption)) | (simp; done)))); rintro e wA ⟨v0, rfl, r3, b3⟩; (try (have NT := Lib.hid (nt_pre (StrsAt.below T0.out (show Below wB.heap.size wB _ from (by first | exact Below.refl _ _ | exact (Below.refl _ _).drew))) r3))); (try (have NT := Lib.hid (nt_lit (Y := w2) r3))); (try (have NT := Lib.hid (nt_lit (Y := w2.drew) r3))); (try (have NT := Lib.hid (nt_lit (Y := wB) r3))); (try (have NT := Lib.hid (nt_lit (Y := wB.drew) r3))); (try (have R1 := Lib.hid (SRow.after R1.out (show Below wB.heap.size wB _ from (by first | exact bk1 b3 | exact bk2 b3 | exact bk3 b3 | exact bk4 b3 | exact bk5 b3))))); (try (have T0 := Lib.hid (StrsAt.below T0.out (show Below wB.heap.size wB _ from (by first | exact bk1 b3 | exact bk2 b3 | exact bk3 b3 | exact bk4 b3 | exact bk5 b3))))); (try (have T0 := Lib.hid (lit_k (Y := w2) (by first | exact bk1 b3 | exact bk2 b3)))); (try (have T0 := Lib.hid (lit_k (Y := w2.drew) (by first | exact bk1 b3 | exact bk2 b3)))); (try (have T0 := Lib.hid (lit_k (Y := wB) (by first | exact bk1 b3 | exact bk2 b3)))); (try (have T0 := Lib.hid (lit_k (Y := wB.drew) (by first | exact bk1 b3 | exact bk2 b3)))); have bwA' : Below w2.heap.size w2 wA := below_next (by repeat' (first | assumption | exact Below.refl _ _ | apply Below.drew | (refine Below.alloc ?_ ?_ _) | exact Nat.le_refl _ | (exact Below.size (by assumption)) | (simp; done))) b3; obtain ⟨p0, c0', rfl⟩ := strs_form' r3.at; have R0 := Lib.hid (World.ownsRow.base r3 (Below.size (show Below w2.heap.size w2 _ from (by repeat' (first | assumption | exact Below.refl _ _ | apply Below.drew | (refine Below.alloc ?_ ?_ _) | exact Nat.le_refl _ | (exact Below.size (by assumption)) | (simp; done)))))); have RA0 := Lib.hid r3; clear r3 b3)
    | (go_at_call 41; (with_reducible refine Calls.mono (FF1.out _ ?_) ?_); (exact (by repeat' (first | assumption | exact Below.refl _ _ | apply Below.drew | (refine Below.alloc ?_ ?_ _) | exact Nat.le_refl _ | (exact Below.size (by assumption)) | (simp; done)))); rintro e wB ⟨v1, rfl, r3, b3⟩; (try (have R0 := Lib.hid (SRow.after R0.out (show Below wA.heap.size wA _ from (by first | exact bk1 b3 | exact bk2 b3 | exact bk3 b3 | exact bk4 b3 | exact bk5 b3))))); (try (have T0 := Lib.hid (StrsAt.below T0.out (show Below wA.heap.size wA _ from (by first | exact bk1 b3 | exact bk2 b3 | exact bk3 b3 | exact bk4 b3 | exact bk5 b3))))); (try (have T0 := Lib.hid (lit_k (Y := w2) (by first | exact bk1 b3 | exact bk2 b3)))); (try (have T0 := Lib.hid (lit_k (Y := w2.drew) (by first | exact bk1 b3 | exact bk2 b3)))); (try (have T0 := Lib.hid (lit_k (Y := wA) (by first | exact bk1 b3 | exact bk2 b3)))); (try (have T0 := Lib.hid (lit_k (Y := wA.drew) (by first | exact bk1 b3 | exact bk2 b3)))); (try (have hAB := Lib.hid (Below.size (show Below wA.heap.size wA wB from (by first | exact bk1 b3 | exact bk2 b3 | exact bk3 b3 | exact bk4 b3 | exact bk5 b3))))); have bwB' : Below w2.heap.size w2 wB := below_next (by repeat' (first | assumption | exact Below.refl _ _ | apply Below.drew | (refine Below.alloc ?_ ?_ _) | exact Nat.le_refl _ | (exact Below.size (by assumption)) | (simp; done))) b3; obtain ⟨p1, c1', rfl⟩ := strs_form' r3.at; have R1 := Lib.hid (World.ownsRow.base r3 (Below.size (show Below w2.heap.size w2 _ from (by repeat' (first | assumption | exact Below.refl _ _ | apply Below.drew | (refine Below.alloc ?_ ?_ _) | exact Nat.le_refl _ | (exact Below.size (by assumption)) | (simp; done)))))); clear r3 b3)
    | (refine step_append_any (by rfl) _ _ 31 (by rfl) w2.heap.size 9 i0 (.string ByteArray.empty) 1 16 Try.underlying31 HIN.out.1 HIN.out.2.1 HIN.out.2.2.1 HIN.out.2.2.2 rfl (by decide) _ s0.length (strCells s0) rfl (SRow.after R0.out (by repeat' (first | exact Below.refl _ _ | apply Below.drew | (refine Below.alloc ?_ ?_ _) | exact Nat.le_refl _ | (simp; done)))) p1 s1.length c1' (strCells s1) rfl (by rw [length_strCells]) (strs_src (SRow.at (SRow.after R1.out (by repeat' (first | exact Below.refl _ _ | apply Below.drew | (refine Below.alloc ?_ ?_ _) | exact Nat.le_refl _ | (simp; done)))))).2 (strCells_one _) (by have := LEN.out; unfold maxLen; omega) (by have := LEN.out; omega) (Below.size (show Below w2.heap.size w2 _ from (by repeat' (first | assumption | exact Below.refl _ _ | apply Below.drew | (refine Below.alloc ?_ ?_ _) | exact Nat.le_refl _ | (exact Below.size (by assumption)) | (simp; done))))) ?_; intro p8 cap8 w7 hown hgrow hblk; have hG := GG.out _ _ _ (fun g hg => (World.ownsRow.there R0.out hg).1) (by repeat' (first | assumption | exact Below.refl _ _ | apply Below.drew | (refine Below.alloc ?_ ?_ _) | exact Nat.le_refl _ | (exact Below.size (by assumption)) | (simp; done))) hgrow; have hS7 := hG.1; (try (have T0 := Lib.hid (strs_grown (StrsAt.below T0.out (show Below wA.heap.size wA _ from (by first | exact Below.refl _ _ | exact (Below.refl _ _).drew))) hgrow (by first | exact NT.out | exact nt_post RA0.out (Nat.le_refl _) | exact nt_post RA0.out hAB.out)))); (try (have T0 := Lib.hid (strs_grown (StrsAt.below T0.out (show Below wB.heap.size wB _ from (by first | exact Below.refl _ _ | exact (Below.refl _ _).drew))) hgrow (by first | exact NT.out | exact nt_post RA0.out (Nat.le_refl _) | exact nt_post RA0.out hAB.out)))); (try (have T0 := Lib.hid (strs_grown (show StrsAt _ _ [t0] from (text_row wA t0).at) hgrow (by first | exact NT.out | exact nt_post RA0.out (Nat.le_refl _) | exact nt_post RA0.out hAB.out)))); (try (have T0 := Lib.hid (strs_grown (show StrsAt _ _ [t0] from (text_row wA.drew t0).at) hgrow (by first | exact NT.out | exact nt_post RA0.out (Nat.le_refl _) | exact nt_post RA0.out hAB.out)))); (try (have T0 := Lib.hid (strs_grown (show StrsAt _ _ [t0] from (text_row wB t0).at) hgrow (by first | exact NT.out | exact nt_post RA0.out (Nat.le_refl _) | exact nt_post RA0.out hAB.out)))); (try (have T0 := Lib.hid (strs_grown (show StrsAt _ _ [t0] from (text_row wB.drew t0).at) hgrow (by first | exact NT.out | exact nt_post RA0.out (Nat.le_refl _) | exact nt_post RA0.out hAB.out)))); have R8 := Lib.hid (srow_app hown); have bw7' := hG.2; clear hown hgrow hblk hG)
    | (go_at_call 70; (with_reducible refine Calls.mono (LSS.out _ _ (s0 ++ s1) [t0] _ ?_ ?_ ?_) ?_); (exact SRow.at (SRow.after R8.out (by repeat' (first | exact Below.refl _ _ | apply Below.drew | (refine Below.alloc ?_ ?_ _) | exact Nat.le_refl _ | (simp; done))))); (first | exact StrsAt.below T0.out (by first | exact Below.refl _ _ | exact (Below.refl _ _).drew) | exact (text_row _ t0).at); (exact (by rw [List.length_append]; have := LEN.out; omega)); rintro e wL ⟨v9, rfl, r3, b3⟩; have bwL' : Below w2.heap.size w2 wL := below_next (by repeat' (first | assumption | exact Below.refl _ _ | apply Below.drew | (refine Below.alloc ?_ ?_ _) | exact Nat.le_refl _ | (exact Below.size (by assumption)) | (simp; done))) b3; obtain ⟨p9, c9, rfl⟩ := strs_form' r3.at; have R9 := Lib.hid (World.ownsRow.base r3 (Below.size (show Below w2.heap.size w2 _ from (by repeat' (first | assumption | exact Below.refl _ _ | apply Below.drew | (refine Below.alloc ?_ ?_ _) | exact Nat.le_refl _ | (exact Below.size (by assumption)) | (simp; done)))))); clear r3 b3)
    | fail))
  all_goals
    have BF := Lib.hid (below_next B2.out bwL')
    go_wp2_with fail
    go_ret
    exact ⟨_, rfl, World.ownsRow.base R9.out B2.out.size, BF.out⟩
end Go.Proofs.Ytlalnmefppbebaa
