/- The contract of fault. -/
import Derived.Test.YtlalnmefppbebaaSynC
import Derived.Lib.Builder
namespace Go.Proofs.Ytlalnmefppbebaa
open Go.RowKit Go.Proofs.TreeMath
def nodeObj (k : Int) (s : ByteArray) (m d : Int) : Obj := .cells #[.int .i64 k, .string s, .int .i64 m, .int .i64 d] 42
theorem box_cells {w w1 : World} {k m d : Int} {s : ByteArray} (h2 : Below (w.heap.size + 1) (w.alloc (nodeObj k s m d)) w1) :
    w1.cell? ⟨w.heap.size, 0, none⟩ = some (.int .i64 k) ∧ w1.cell? ⟨w.heap.size, 1, none⟩ = some (.string s) ∧ w1.cell? ⟨w.heap.size, 2, none⟩ = some (.int .i64 m) ∧ w1.cell? ⟨w.heap.size, 3, none⟩ = some (.int .i64 d) := by
  have hb : w1.heap[w.heap.size]? = some (nodeObj k s m d) := by
    rw [h2.block _ (by omega)]
    show (w.heap.push _)[w.heap.size]? = _
    simp
  unfold nodeObj at hb
  exact ⟨Lib.cell_of_heap hb 0, Lib.cell_of_heap hb 1, Lib.cell_of_heap hb 2, Lib.cell_of_heap hb 3⟩
set_option maxHeartbeats 2000000 in
theorem fault_in (b off n c i : Nat) (k m d k2 p : Int) (s : ByteArray) (w : World) (hb : b < w.heap.size) (hi : i < n) (hnm : n ≤ 1000000) (_hnc : n ≤ c)
    (c0 : w.cell? ⟨b, off + i * 4, none⟩ = some (.int .i64 k)) (c1 : w.cell? ⟨b, off + i * 4 + 1, none⟩ = some (.string s)) (c2 : w.cell? ⟨b, off + i * 4 + 2, none⟩ = some (.int .i64 m)) (c3 : w.cell? ⟨b, off + i * 4 + 3, none⟩ = some (.int .i64 d))
    (hx : k = 8 → d = 2 → i + 1 < n ∧ w.cell? ⟨b, off + (i + 1) * 4, none⟩ = some (.int .i64 k2)) (hs : s.size ≤ 300) :
    Calls Try.prog 51 #[.slice (some ⟨b, off, none⟩) n c, .int .i64 (i : Int), .int .i64 p] w (RI (faultE ⟨k, s, m, d⟩ k2 p) w) := by
  have HA := Lib.hid (fun W => allows_any p k W)
  have HN : Hid (∀ W : World, Calls Try.prog 73 #[.agg #[.int .i64 k, .string s, .int .i64 m, .int .i64 d]] W (RB (numB k m) W)) := Lib.hid (fun W => rightNum_any ⟨k, s, m, d⟩ W)
  have HK : Hid (∀ W : World, Calls Try.prog 74 #[.agg #[.int .i64 k, .string s, .int .i64 m, .int .i64 d]] W (RB (kidsB k d) W)) := Lib.hid (fun W => rightKids_any ⟨k, s, m, d⟩ W)
  have HT : Hid (∀ W : World, Calls Try.prog 75 #[.agg #[.int .i64 k, .string s, .int .i64 m, .int .i64 d]] W (RI (textE k s) W)) := Lib.hid (fun W => textFault_any ⟨k, s, m, d⟩ W hs)
  have hz : kidsB k d = true → k = 8 → d = 2 := by
    intro h e
    subst e
    simpa [kidsB] using h
  have hin : ((i : Int) < (n : Int)) := by omega
  have hb0 : ∀ W : World, Below W.heap.size W (W.alloc (.cells #[.int .i64 k, .string s, .int .i64 m, .int .i64 d] 42)) := fun W => (Below.refl _ _).alloc (Nat.le_refl _) _
  clear hs
  unfold faultE
  simp only
  generalize allowsB p k = x at *
  generalize numB k m = y at *
  generalize hkb : kidsB k d = z at *
  generalize textE k s = t at *
  clear hkb
  have HB0 := Lib.hid hb0
  clear hb0
  cases x
  · go_enter Try.func51, Try.ntmps51
    go_wp2_with fail
    refine (HA.out _).mono ?_
    rintro e w1 ⟨rfl, rfl⟩
    go_wp2_with fail
    go_ret
    exact ⟨rfl, HB0.out _⟩
  cases y
  · go_enter Try.func51, Try.ntmps51
    go_wp2_with fail
    refine (HA.out _).mono ?_
    rintro e w1 ⟨rfl, rfl⟩
    go_wp2_with fail
    refine (HN.out _).mono ?_
    rintro e w1 ⟨rfl, b1⟩
    have B1 := Lib.hid ((HB0.out w).trans (b1.mono (HB0.out w).size))
    clear b1
    go_wp2_with fail
    go_ret
    exact ⟨rfl, B1.out⟩
  cases z
  · go_enter Try.func51, Try.ntmps51
    go_wp2_with fail
    refine (HA.out _).mono ?_
    rintro e w1 ⟨rfl, rfl⟩
    go_wp2_with fail
    refine (HN.out _).mono ?_
    rintro e w1 ⟨rfl, b1⟩
    have B1 := Lib.hid ((HB0.out w).trans (b1.mono (HB0.out w).size))
    have BX := Lib.hid (show Below (w.heap.size + 1) (w.alloc (nodeObj k s m d)) w1 from by simpa [nodeObj] using b1)
    obtain ⟨q0, q1, q2, q3⟩ := box_cells BX.out
    clear b1
    go_wp2_with fail
    refine (HK.out _).mono ?_
    rintro e w2 ⟨rfl, b2⟩
    have B2 := Lib.hid (B1.out.trans (b2.mono B1.out.size))
    clear b2
    go_wp2_with fail
    go_ret
    exact ⟨rfl, B2.out⟩
  have HZ := Lib.hid (hz rfl)
  clear hz
  by_cases hk : k = 8
  · have hd := HZ.out hk
    obtain ⟨hi2, cx⟩ := hx hk hd
    subst hk
    subst hd
    have hin2 : ((i : Int) + 1 < (n : Int)) := by omega
    have hw1 : IntKind.i64.wrap ((i : Int) + 1) = ((i + 1 : Nat) : Int) := by rw [IntWalk.i64_in _ (by omega)]; omega
    have CX := Lib.hid cx
    clear hx cx
    by_cases h5 : k2 = 5
    · subst h5
      go_enter Try.func51, Try.ntmps51
      go_wp2_with fail
      refine (HA.out _).mono ?_
      rintro e w1 ⟨rfl, rfl⟩
      go_wp2_with fail
      refine (HN.out _).mono ?_
      rintro e w1 ⟨rfl, b1⟩
      have B1 := Lib.hid ((HB0.out w).trans (b1.mono (HB0.out w).size))
      have BX := Lib.hid (show Below (w.heap.size + 1) (w.alloc (nodeObj 8 s m 2)) w1 from by simpa [nodeObj] using b1)
      obtain ⟨q0, q1, q2, q3⟩ := box_cells BX.out
      clear b1
      go_wp2_with fail
      refine (HK.out _).mono ?_
      rintro e w2 ⟨rfl, b2⟩
      have B2 := Lib.hid (B1.out.trans (b2.mono B1.out.size))
      have BX2 := Lib.hid (BX.out.trans (b2.mono (by have := BX.out.size; simp at this; omega)))
      obtain ⟨p0, p1, p2, p3⟩ := box_cells BX2.out
      have cx : w2.cell? ⟨b, off + (i + 1) * 4, none⟩ = some (.int .i64 5) := (B2.out.cell hb).trans CX.out
      clear b2 q0 q1 q2 q3
      go_wp2_with fail
      refine (HT.out _).mono ?_
      rintro e w3 ⟨rfl, b3⟩
      have B3 := Lib.hid (B2.out.trans (b3.mono B2.out.size))
      clear b3
      go_wp2_with fail
      go_ret
      exact ⟨rfl, B3.out⟩
    · have h5' : (k2 != 5) = true := by simpa using h5
      have er : (if (true && true && true) = true then if (8 : Int) = 8 ∧ k2 ≠ 5 then 61 else t else 61) = (61 : Int) := by simp [h5]
      rw [er]
      clear h5 er
      go_enter Try.func51, Try.ntmps51
      go_wp2_with fail
      refine (HA.out _).mono ?_
      rintro e w1 ⟨rfl, rfl⟩
      go_wp2_with fail
      refine (HN.out _).mono ?_
      rintro e w1 ⟨rfl, b1⟩
      have B1 := Lib.hid ((HB0.out w).trans (b1.mono (HB0.out w).size))
      have BX := Lib.hid (show Below (w.heap.size + 1) (w.alloc (nodeObj 8 s m 2)) w1 from by simpa [nodeObj] using b1)
      obtain ⟨q0, q1, q2, q3⟩ := box_cells BX.out
      clear b1
      go_wp2_with fail
      refine (HK.out _).mono ?_
      rintro e w2 ⟨rfl, b2⟩
      have B2 := Lib.hid (B1.out.trans (b2.mono B1.out.size))
      have BX2 := Lib.hid (BX.out.trans (b2.mono (by have := BX.out.size; simp at this; omega)))
      obtain ⟨p0, p1, p2, p3⟩ := box_cells BX2.out
      have cx : w2.cell? ⟨b, off + (i + 1) * 4, none⟩ = some (.int .i64 k2) := (B2.out.cell hb).trans CX.out
      clear b2 q0 q1 q2 q3
      go_wp2_with fail
      go_ret
      exact ⟨rfl, B2.out⟩
  · have g8 : (k == 8) = false := by simpa using hk
    have er : (if (true && true && true) = true then if k = 8 ∧ k2 ≠ 5 then 61 else t else 61) = t := by simp [hk]
    rw [er]
    clear hx hk er
    go_enter Try.func51, Try.ntmps51
    go_wp2_with fail
    refine (HA.out _).mono ?_
    rintro e w1 ⟨rfl, rfl⟩
    go_wp2_with fail
    refine (HN.out _).mono ?_
    rintro e w1 ⟨rfl, b1⟩
    have B1 := Lib.hid ((HB0.out w).trans (b1.mono (HB0.out w).size))
    have BX := Lib.hid (show Below (w.heap.size + 1) (w.alloc (nodeObj k s m d)) w1 from by simpa [nodeObj] using b1)
    obtain ⟨q0, q1, q2, q3⟩ := box_cells BX.out
    clear b1
    go_wp2_with fail
    refine (HK.out _).mono ?_
    rintro e w2 ⟨rfl, b2⟩
    have B2 := Lib.hid (B1.out.trans (b2.mono B1.out.size))
    have BX2 := Lib.hid (BX.out.trans (b2.mono (by have := BX.out.size; simp at this; omega)))
    obtain ⟨p0, p1, p2, p3⟩ := box_cells BX2.out
    clear b2 q0 q1 q2 q3
    go_wp2_with fail
    refine (HT.out _).mono ?_
    rintro e w3 ⟨rfl, b3⟩
    have B3 := Lib.hid (B2.out.trans (b3.mono B2.out.size))
    clear b3
    go_wp2_with fail
    go_ret
    exact ⟨rfl, B3.out⟩
theorem fault_any (b off c : Nat) (ns : List Nd) (i : Nat) (p : Int) (w : World) (hnm : ns.length ≤ 1000000) (hnc : ns.length ≤ c) (hb : b < w.heap.size) (hc : CellsIn w b off (nodeCells ns)) (hi : i < ns.length)
    (hx : (ns.getD i default).kids = 2 → i + 1 < ns.length) (hs : (ns.getD i default).text.size ≤ 300) :
    Calls Try.prog 51 #[.slice (some ⟨b, off, none⟩) ns.length c, .int .i64 (i : Int), .int .i64 p] w (RI (see1 ns i p) w) := by
  obtain ⟨c0, c1, c2, c3⟩ := hc.node i hi
  exact fault_in b off ns.length c i _ _ _ (ns.getD (i + 1) default).kind p _ w hb hi hnm hnc c0 c1 c2 c3 (fun _ h => ⟨hx h, (hc.node (i + 1) (hx h)).1⟩) hs
end Go.Proofs.Ytlalnmefppbebaa
