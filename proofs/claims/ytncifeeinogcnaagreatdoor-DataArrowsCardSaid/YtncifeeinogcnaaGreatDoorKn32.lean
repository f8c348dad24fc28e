/- Texts of this seat, one behind the other: RfC. -/
import Derived.Test.YtncifeeinogcnaaGreatDoorKn22
import Derived.Test.YtncifeeinogcnaaGreatDoorKn30
import Derived.Test.YtncifeeinogcnaaGreatDoorKn31
/- The document's own answer: is it a type? -/
set_option maxRecDepth 100000
namespace Go.Proofs.YtncifeeinogcnaaGreatDoor
open Go.RowKit Go.Lib Go.Maps Go.Proofs.TreeMath Go.Proofs.LexMath

theorem nm_arrow : nameB sArrow = false := by kernel_rfl
theorem nm_int : nameB sInt = false := by kernel_rfl
theorem nm_text : nameB sText = false := by kernel_rfl
theorem nm_ref : nameB sRef = false := by kernel_rfl
def RrP (t : List Nd) (w : World) (e : Ending) (w' : World) : Prop := e = .returned (.bool (tyB t)) ∧ Below w.heap.size w w'
theorem all_take (p : Nd → Bool) (t : List Nd) (j : Nat) (hj : j < t.length) (h : (t.take j).all p = true) (hp : p (t.getD j default) = true) : (t.take (j + 1)).all p = true := by
  rw [take_one t j hj, List.all_append, h, List.all_cons, List.all_nil, hp]; rfl
theorem all_not (p : Nd → Bool) (t : List Nd) (j : Nat) (hj : j < t.length) (hp : p (t.getD j default) = false) : t.all p = false := by
  rw [List.all_eq_false]
  refine ⟨t.getD j default, ?_, by rw [hp]; decide⟩
  rw [List.getD_eq_getElem?_getD, List.getElem?_eq_getElem hj]
  exact List.getElem_mem _
set_option maxHeartbeats 8000000 in
theorem rtype_any (tv : Value) (t : List Nd) (w : World) (hns : NodesAt w tv t) (hl : t.length ≤ 1000000) (sm : SmallN t) : Calls Tryz.prog 13 #[tv] w (RrP t w) := by
  obtain ⟨q, c, rfl⟩ : ∃ q c, tv = .slice q t.length c := by obtain ⟨_, q, c, e, _⟩ := hns; exact ⟨q, c, e⟩
  have WH := Lib.hid (ref_whole _ t w hns hl)
  have NS := Lib.hid (fun W (b : Below w.heap.size w W) => hns.below b)
  have SM := Lib.hid sm
  have hT : tyB t = (decide (t.length ≤ 4000) && wholeB (kk t) && t.all rightN) := rfl
  obtain ⟨l, hlen⟩ : ∃ l, l = t.length := ⟨_, rfl⟩
  have HL := Lib.hid hlen
  rw [← hlen] at NS hl WH hT ⊢
  have NO : tyB t = false → Hid (∀ w', Below w.heap.size w w' → RrP t w (.returned (.bool false)) w') := fun h => Lib.hid fun w' b => ⟨by rw [h], b⟩
  clear hns hlen sm
  by_cases h1 : 4000 < l
  · have A := NO (by rw [hT, decide_eq_false (by omega)]; rfl)
    have t1 : decide ((4000 : Int) < (l : Int)) = true := by simp; omega
    clear NO hT
    go_enter Tryz.func13, Tryz.ntmps13
    go_wp2
    go_ret
    exact A.out _ (Below.refl _ _)
  · have t1 : decide ((4000 : Int) < (l : Int)) = false := by simp; omega
    rw [decide_eq_true (by omega : l ≤ 4000), Bool.true_and] at hT
    obtain ⟨z, hz⟩ : ∃ z, z = wholeB (kk t) := ⟨_, rfl⟩
    rw [← hz] at WH hT
    clear hz
    cases z with
    | false =>
      have A := NO (by rw [hT]; rfl)
      clear NO hT
      go_enter Tryz.func13, Tryz.ntmps13
      go_wp2_with fail
      refine WH.out.mono ?_
      rintro e w1 ⟨rfl, rfl⟩
      clear WH
      go_wp2
      go_ret
      exact A.out _ (Below.refl _ _)
    | true =>
      rw [Bool.true_and] at hT
      have NO : Hid (∀ j, j < l → rightN (t.getD j default) = false → ∀ w', Below w.heap.size w w' → RrP t w (.returned (.bool false)) w') := Lib.hid fun j hj h w' b => (NO (by rw [hT]; exact all_not rightN t j (by rw [← HL.out]; exact hj) h)).out w' b
      have HT := Lib.hid hT
      clear hT
      go_enter Tryz.func13, Tryz.ntmps13
      go_wp2_with fail
      refine WH.out.mono ?_
      rintro e w1 ⟨rfl, rfl⟩
      clear WH t1
      go_wp2
      go_loopw [3] (fun i wr => ∃ j : Nat, j ≤ l ∧ i = .int .i64 j ∧ Hid ((t.take j).all rightN = true) ∧ Hid (Below w.heap.size w wr)) (fun i _ => l - (intOf i).toNat)
      case atStart => exact ⟨0, Nat.zero_le _, rfl, Lib.hid rfl, Lib.hid (Below.refl _ _)⟩
      case round =>
        obtain ⟨j, hj, rfl, hV, hB⟩ := hrel
        by_cases hlt : j < l
        · obtain ⟨n, hn⟩ : ∃ n, n = t.getD j default := ⟨_, rfl⟩
          obtain ⟨g1, q', c', e', g2, g3, g4⟩ := NS.out wr hB.out
          obtain ⟨b, o, rfl, gb, gc⟩ := g4 (by rw [← HL.out]; omega)
          simp only [Value.slice.injEq] at e'
          obtain ⟨rfl, hlx, rfl⟩ := e'
          obtain ⟨a0, a1, a2, a3⟩ := CellsIn.node gc j (by rw [← HL.out]; exact hlt)
          rw [← hn] at a0 a1 a2 a3
          have NOJ := Lib.hid (NO.out j hlt)
          have YES := Lib.hid (fun h => all_take rightN t j (by rw [← HL.out]; exact hlt) hV.out h)
          rw [← hn] at NOJ YES
          have hs : n.text.size ≤ 100000000 := SM.out n (by
            rw [hn, List.getD_eq_getElem?_getD, List.getElem?_eq_getElem (by rw [← HL.out]; exact hlt)]
            exact List.getElem_mem _)
          clear hn g1 g2 g3 g4 gb gc hlx NO hV
          obtain ⟨k, s, nm, c0⟩ := n
          simp only at a0 a1 a2 a3 hs
          have BA : Hid (Below w.heap.size w (wr.alloc (.cells #[.int .i64 k, .string s, .int .i64 nm, .int .i64 c0] 58))) := Lib.hid (hB.out.trans (((Below.refl wr.heap.size wr).alloc (Nat.le_refl _) _).mono hB.out.size))
          have hse : s.toList.isEmpty = s.data.toList.isEmpty := by rw [ByteArray.toList_eq]
          by_cases hk : k = 31
          · subst hk
            have R : rightN ⟨31, s, nm, c0⟩ = (decide (0 ≤ nm) && decide (nm ≤ 1048576) && (c0 == 0) && s.data.toList.isEmpty) := rfl
            rw [← hse] at R
            clear hse hs
            have t3 : decide (nm < 0) = !decide (0 ≤ nm) := by by_cases h : 0 ≤ nm <;> simp [h] <;> omega
            have t4 : decide (1048576 < nm) = !decide (nm ≤ 1048576) := by by_cases h : nm ≤ 1048576 <;> simp [h] <;> omega
            by_cases z1 : c0 = 0
            · have u1 : (c0 == 0) = true := by simpa using z1
              have u1' : (c0 != 0) = false := by simp [z1]
              by_cases z2 : s.toList = []
              · have u2 : s.toList.isEmpty = true := by rw [z2]; rfl
                by_cases z3 : 0 ≤ nm
                · rw [decide_eq_true z3] at t3 R
                  by_cases z4 : nm ≤ 1048576
                  · rw [decide_eq_true z4] at t4 R
                    have Y := Lib.hid (YES.out (by rw [R, u1, u2]; rfl))
                    clear YES R u2 z1
                    clear NOJ
                    go_wp2
                    go_roundw
                    case rel => exact ⟨j + 1, by omega, by go_num, Y, BA⟩
                    case measure => simp [intOf]; omega
                  · rw [decide_eq_false z4] at t4 R
                    have N := Lib.hid (NOJ.out (by rw [R]; simp))
                    clear YES NOJ R u2 z1
                    go_wp2
                    go_ret
                    exact N.out _ BA.out
                · rw [decide_eq_false z3] at t3 R
                  have N := Lib.hid (NOJ.out (by rw [R]; simp))
                  clear YES NOJ R u2 z1 t4
                  go_wp2
                  go_ret
                  exact N.out _ BA.out
              · have u2 : s.toList.isEmpty = false := by cases h : s.toList with | nil => exact absurd h z2 | cons a b => rfl
                have N := Lib.hid (NOJ.out (by rw [R, u2]; simp))
                clear YES NOJ R z1 t3 t4
                go_wp2
                go_ret
                exact N.out _ BA.out
            · have u1 : (c0 == 0) = false := by simpa using z1
              have N := Lib.hid (NOJ.out (by rw [R, u1]; simp))
              clear YES NOJ R t3 t4
              go_wp2
              go_ret
              exact N.out _ BA.out
          · have t0 : (k == 31) = false := by simpa using hk
            have R := Lib.hid (fun W => Lx.rright_any ⟨2, s, 0, 0⟩ W hs)
            unfold Lx.tokV at R
            simp only at R
            have hb : rightB ⟨2, s, 0, 0⟩ = nameB s := rfl
            rw [hb] at R
            have RN : rightN ⟨k, s, nm, c0⟩ = (if k = 32 then (nm == 0) && conB s c0 else false) := by unfold rightN; rw [if_neg hk]
            clear hb hse hs
            by_cases h1 : s = sArrow
            · have hc : conB s c0 = (c0 == 2) := by unfold conB; rw [if_pos h1]
              subst h1
              rw [nm_arrow] at R
              skip
              cases hz : (c0 == 2) with
              | true =>
                rw [hz] at hc
                skip
                try unfold sArrow at *
                by_cases hk2 : k = 32
                · subst hk2
                  by_cases hn0 : nm = 0
                  · subst hn0
                    have Y := Lib.hid (YES.out (by rw [RN, if_pos rfl, hc]; rfl))
                    clear YES NOJ RN hc hk
                    go_wp2_with fail
                    refine (R.out _).mono ?_
                    rintro e w5 ⟨rfl, b5⟩
                    have BB := Lib.hid (BA.out.trans (b5.mono BA.out.size))
                    have d0 := (b5.cell (p := ⟨wr.heap.size, 0, none⟩) (by simp)).trans (cell_of_heap (alloc_top wr (.cells #[.int .i64 32, .string ⟨#[45, 62]⟩, .int .i64 0, .int .i64 c0] 58)) 0)
                    have d1 := (b5.cell (p := ⟨wr.heap.size, 1, none⟩) (by simp)).trans (cell_of_heap (alloc_top wr (.cells #[.int .i64 32, .string ⟨#[45, 62]⟩, .int .i64 0, .int .i64 c0] 58)) 1)
                    have d2 := (b5.cell (p := ⟨wr.heap.size, 2, none⟩) (by simp)).trans (cell_of_heap (alloc_top wr (.cells #[.int .i64 32, .string ⟨#[45, 62]⟩, .int .i64 0, .int .i64 c0] 58)) 2)
                    have d3 := (b5.cell (p := ⟨wr.heap.size, 3, none⟩) (by simp)).trans (cell_of_heap (alloc_top wr (.cells #[.int .i64 32, .string ⟨#[45, 62]⟩, .int .i64 0, .int .i64 c0] 58)) 3)
                    simp only [List.getElem?_toArray, List.getElem?_cons_zero, List.getElem?_cons_succ] at d0 d1 d2 d3
                    clear b5 R BA
                    go_wp2
                    go_roundw
                    case rel => exact ⟨j + 1, by omega, by go_num, Y, BB⟩
                    case measure => simp [intOf]; omega
                  · have w1 : (nm == 0) = false := by simpa using hn0
                    have w1' : (nm != 0) = true := by simp [hn0]
                    have N := Lib.hid (NOJ.out (by rw [RN, if_pos rfl, w1]; rfl))
                    clear YES NOJ RN hc hk hn0
                    go_wp2_with fail
                    refine (R.out _).mono ?_
                    rintro e w5 ⟨rfl, b5⟩
                    have BB := Lib.hid (BA.out.trans (b5.mono BA.out.size))
                    have d0 := (b5.cell (p := ⟨wr.heap.size, 0, none⟩) (by simp)).trans (cell_of_heap (alloc_top wr (.cells #[.int .i64 32, .string ⟨#[45, 62]⟩, .int .i64 nm, .int .i64 c0] 58)) 0)
                    have d1 := (b5.cell (p := ⟨wr.heap.size, 1, none⟩) (by simp)).trans (cell_of_heap (alloc_top wr (.cells #[.int .i64 32, .string ⟨#[45, 62]⟩, .int .i64 nm, .int .i64 c0] 58)) 1)
                    have d2 := (b5.cell (p := ⟨wr.heap.size, 2, none⟩) (by simp)).trans (cell_of_heap (alloc_top wr (.cells #[.int .i64 32, .string ⟨#[45, 62]⟩, .int .i64 nm, .int .i64 c0] 58)) 2)
                    have d3 := (b5.cell (p := ⟨wr.heap.size, 3, none⟩) (by simp)).trans (cell_of_heap (alloc_top wr (.cells #[.int .i64 32, .string ⟨#[45, 62]⟩, .int .i64 nm, .int .i64 c0] 58)) 3)
                    simp only [List.getElem?_toArray, List.getElem?_cons_zero, List.getElem?_cons_succ] at d0 d1 d2 d3
                    clear b5 R BA
                    go_wp2
                    go_ret
                    exact N.out _ BB.out
                · have v1 : (k == 32) = false := by simpa using hk2
                  have v1' : (k != 32) = true := by simp [hk2]
                  have N := Lib.hid (NOJ.out (by rw [RN, if_neg hk2]))
                  clear YES NOJ RN hc hk hk2
                  go_wp2_with fail
                  refine (R.out _).mono ?_
                  rintro e w5 ⟨rfl, b5⟩
                  have BB := Lib.hid (BA.out.trans (b5.mono BA.out.size))
                  have d0 := (b5.cell (p := ⟨wr.heap.size, 0, none⟩) (by simp)).trans (cell_of_heap (alloc_top wr (.cells #[.int .i64 k, .string ⟨#[45, 62]⟩, .int .i64 nm, .int .i64 c0] 58)) 0)
                  have d1 := (b5.cell (p := ⟨wr.heap.size, 1, none⟩) (by simp)).trans (cell_of_heap (alloc_top wr (.cells #[.int .i64 k, .string ⟨#[45, 62]⟩, .int .i64 nm, .int .i64 c0] 58)) 1)
                  have d2 := (b5.cell (p := ⟨wr.heap.size, 2, none⟩) (by simp)).trans (cell_of_heap (alloc_top wr (.cells #[.int .i64 k, .string ⟨#[45, 62]⟩, .int .i64 nm, .int .i64 c0] 58)) 2)
                  have d3 := (b5.cell (p := ⟨wr.heap.size, 3, none⟩) (by simp)).trans (cell_of_heap (alloc_top wr (.cells #[.int .i64 k, .string ⟨#[45, 62]⟩, .int .i64 nm, .int .i64 c0] 58)) 3)
                  simp only [List.getElem?_toArray, List.getElem?_cons_zero, List.getElem?_cons_succ] at d0 d1 d2 d3
                  clear b5 R BA
                  go_wp2
                  go_ret
                  exact N.out _ BB.out
              | false =>
                rw [hz] at hc
                skip
                try unfold sArrow at *
                by_cases hk2 : k = 32
                · subst hk2
                  by_cases hn0 : nm = 0
                  · subst hn0
                    have N := Lib.hid (NOJ.out (by rw [RN, if_pos rfl, hc]; rfl))
                    clear YES NOJ RN hc hk
                    go_wp2_with fail
                    refine (R.out _).mono ?_
                    rintro e w5 ⟨rfl, b5⟩
                    have BB := Lib.hid (BA.out.trans (b5.mono BA.out.size))
                    have d0 := (b5.cell (p := ⟨wr.heap.size, 0, none⟩) (by simp)).trans (cell_of_heap (alloc_top wr (.cells #[.int .i64 32, .string ⟨#[45, 62]⟩, .int .i64 0, .int .i64 c0] 58)) 0)
                    have d1 := (b5.cell (p := ⟨wr.heap.size, 1, none⟩) (by simp)).trans (cell_of_heap (alloc_top wr (.cells #[.int .i64 32, .string ⟨#[45, 62]⟩, .int .i64 0, .int .i64 c0] 58)) 1)
                    have d2 := (b5.cell (p := ⟨wr.heap.size, 2, none⟩) (by simp)).trans (cell_of_heap (alloc_top wr (.cells #[.int .i64 32, .string ⟨#[45, 62]⟩, .int .i64 0, .int .i64 c0] 58)) 2)
                    have d3 := (b5.cell (p := ⟨wr.heap.size, 3, none⟩) (by simp)).trans (cell_of_heap (alloc_top wr (.cells #[.int .i64 32, .string ⟨#[45, 62]⟩, .int .i64 0, .int .i64 c0] 58)) 3)
                    simp only [List.getElem?_toArray, List.getElem?_cons_zero, List.getElem?_cons_succ] at d0 d1 d2 d3
                    clear b5 R BA
                    go_wp2
                    go_ret
                    exact N.out _ BB.out
                  · have w1 : (nm == 0) = false := by simpa using hn0
                    have w1' : (nm != 0) = true := by simp [hn0]
                    have N := Lib.hid (NOJ.out (by rw [RN, if_pos rfl, w1]; rfl))
                    clear YES NOJ RN hc hk hn0
                    go_wp2_with fail
                    refine (R.out _).mono ?_
                    rintro e w5 ⟨rfl, b5⟩
                    have BB := Lib.hid (BA.out.trans (b5.mono BA.out.size))
                    have d0 := (b5.cell (p := ⟨wr.heap.size, 0, none⟩) (by simp)).trans (cell_of_heap (alloc_top wr (.cells #[.int .i64 32, .string ⟨#[45, 62]⟩, .int .i64 nm, .int .i64 c0] 58)) 0)
                    have d1 := (b5.cell (p := ⟨wr.heap.size, 1, none⟩) (by simp)).trans (cell_of_heap (alloc_top wr (.cells #[.int .i64 32, .string ⟨#[45, 62]⟩, .int .i64 nm, .int .i64 c0] 58)) 1)
                    have d2 := (b5.cell (p := ⟨wr.heap.size, 2, none⟩) (by simp)).trans (cell_of_heap (alloc_top wr (.cells #[.int .i64 32, .string ⟨#[45, 62]⟩, .int .i64 nm, .int .i64 c0] 58)) 2)
                    have d3 := (b5.cell (p := ⟨wr.heap.size, 3, none⟩) (by simp)).trans (cell_of_heap (alloc_top wr (.cells #[.int .i64 32, .string ⟨#[45, 62]⟩, .int .i64 nm, .int .i64 c0] 58)) 3)
                    simp only [List.getElem?_toArray, List.getElem?_cons_zero, List.getElem?_cons_succ] at d0 d1 d2 d3
                    clear b5 R BA
                    go_wp2
                    go_ret
                    exact N.out _ BB.out
                · have v1 : (k == 32) = false := by simpa using hk2
                  have v1' : (k != 32) = true := by simp [hk2]
                  have N := Lib.hid (NOJ.out (by rw [RN, if_neg hk2]))
                  clear YES NOJ RN hc hk hk2
                  go_wp2_with fail
                  refine (R.out _).mono ?_
                  rintro e w5 ⟨rfl, b5⟩
                  have BB := Lib.hid (BA.out.trans (b5.mono BA.out.size))
                  have d0 := (b5.cell (p := ⟨wr.heap.size, 0, none⟩) (by simp)).trans (cell_of_heap (alloc_top wr (.cells #[.int .i64 k, .string ⟨#[45, 62]⟩, .int .i64 nm, .int .i64 c0] 58)) 0)
                  have d1 := (b5.cell (p := ⟨wr.heap.size, 1, none⟩) (by simp)).trans (cell_of_heap (alloc_top wr (.cells #[.int .i64 k, .string ⟨#[45, 62]⟩, .int .i64 nm, .int .i64 c0] 58)) 1)
                  have d2 := (b5.cell (p := ⟨wr.heap.size, 2, none⟩) (by simp)).trans (cell_of_heap (alloc_top wr (.cells #[.int .i64 k, .string ⟨#[45, 62]⟩, .int .i64 nm, .int .i64 c0] 58)) 2)
                  have d3 := (b5.cell (p := ⟨wr.heap.size, 3, none⟩) (by simp)).trans (cell_of_heap (alloc_top wr (.cells #[.int .i64 k, .string ⟨#[45, 62]⟩, .int .i64 nm, .int .i64 c0] 58)) 3)
                  simp only [List.getElem?_toArray, List.getElem?_cons_zero, List.getElem?_cons_succ] at d0 d1 d2 d3
                  clear b5 R BA
                  go_wp2
                  go_ret
                  exact N.out _ BB.out
            · have d5 := str_ne h1
              have e5 := str_ne' h1
              rw [tl_arrow] at d5 e5
              by_cases h2 : s = sInt
              · have hc : conB s c0 = (c0 == 0) := by unfold conB; rw [if_neg h1, if_pos h2]
                subst h2
                rw [nm_int] at R
                clear h1
                cases hz : (c0 == 0) with
                | true =>
                  rw [hz] at hc
                  skip
                  try unfold sInt at *
                  by_cases hk2 : k = 32
                  · subst hk2
                    by_cases hn0 : nm = 0
                    · subst hn0
                      have Y := Lib.hid (YES.out (by rw [RN, if_pos rfl, hc]; rfl))
                      clear YES NOJ RN hc hk
                      go_wp2_with fail
                      refine (R.out _).mono ?_
                      rintro e w5 ⟨rfl, b5⟩
                      have BB := Lib.hid (BA.out.trans (b5.mono BA.out.size))
                      have d0 := (b5.cell (p := ⟨wr.heap.size, 0, none⟩) (by simp)).trans (cell_of_heap (alloc_top wr (.cells #[.int .i64 32, .string ⟨#[105, 110, 116]⟩, .int .i64 0, .int .i64 c0] 58)) 0)
                      have d1 := (b5.cell (p := ⟨wr.heap.size, 1, none⟩) (by simp)).trans (cell_of_heap (alloc_top wr (.cells #[.int .i64 32, .string ⟨#[105, 110, 116]⟩, .int .i64 0, .int .i64 c0] 58)) 1)
                      have d2 := (b5.cell (p := ⟨wr.heap.size, 2, none⟩) (by simp)).trans (cell_of_heap (alloc_top wr (.cells #[.int .i64 32, .string ⟨#[105, 110, 116]⟩, .int .i64 0, .int .i64 c0] 58)) 2)
                      have d3 := (b5.cell (p := ⟨wr.heap.size, 3, none⟩) (by simp)).trans (cell_of_heap (alloc_top wr (.cells #[.int .i64 32, .string ⟨#[105, 110, 116]⟩, .int .i64 0, .int .i64 c0] 58)) 3)
                      simp only [List.getElem?_toArray, List.getElem?_cons_zero, List.getElem?_cons_succ] at d0 d1 d2 d3
                      clear b5 R BA
                      go_wp2
                      go_roundw
                      case rel => exact ⟨j + 1, by omega, by go_num, Y, BB⟩
                      case measure => simp [intOf]; omega
                    · have w1 : (nm == 0) = false := by simpa using hn0
                      have w1' : (nm != 0) = true := by simp [hn0]
                      have N := Lib.hid (NOJ.out (by rw [RN, if_pos rfl, w1]; rfl))
                      clear YES NOJ RN hc hk hn0
                      go_wp2_with fail
                      refine (R.out _).mono ?_
                      rintro e w5 ⟨rfl, b5⟩
                      have BB := Lib.hid (BA.out.trans (b5.mono BA.out.size))
                      have d0 := (b5.cell (p := ⟨wr.heap.size, 0, none⟩) (by simp)).trans (cell_of_heap (alloc_top wr (.cells #[.int .i64 32, .string ⟨#[105, 110, 116]⟩, .int .i64 nm, .int .i64 c0] 58)) 0)
                      have d1 := (b5.cell (p := ⟨wr.heap.size, 1, none⟩) (by simp)).trans (cell_of_heap (alloc_top wr (.cells #[.int .i64 32, .string ⟨#[105, 110, 116]⟩, .int .i64 nm, .int .i64 c0] 58)) 1)
                      have d2 := (b5.cell (p := ⟨wr.heap.size, 2, none⟩) (by simp)).trans (cell_of_heap (alloc_top wr (.cells #[.int .i64 32, .string ⟨#[105, 110, 116]⟩, .int .i64 nm, .int .i64 c0] 58)) 2)
                      have d3 := (b5.cell (p := ⟨wr.heap.size, 3, none⟩) (by simp)).trans (cell_of_heap (alloc_top wr (.cells #[.int .i64 32, .string ⟨#[105, 110, 116]⟩, .int .i64 nm, .int .i64 c0] 58)) 3)
                      simp only [List.getElem?_toArray, List.getElem?_cons_zero, List.getElem?_cons_succ] at d0 d1 d2 d3
                      clear b5 R BA
                      go_wp2
                      go_ret
                      exact N.out _ BB.out
                  · have v1 : (k == 32) = false := by simpa using hk2
                    have v1' : (k != 32) = true := by simp [hk2]
                    have N := Lib.hid (NOJ.out (by rw [RN, if_neg hk2]))
                    clear YES NOJ RN hc hk hk2
                    go_wp2_with fail
                    refine (R.out _).mono ?_
                    rintro e w5 ⟨rfl, b5⟩
                    have BB := Lib.hid (BA.out.trans (b5.mono BA.out.size))
                    have d0 := (b5.cell (p := ⟨wr.heap.size, 0, none⟩) (by simp)).trans (cell_of_heap (alloc_top wr (.cells #[.int .i64 k, .string ⟨#[105, 110, 116]⟩, .int .i64 nm, .int .i64 c0] 58)) 0)
                    have d1 := (b5.cell (p := ⟨wr.heap.size, 1, none⟩) (by simp)).trans (cell_of_heap (alloc_top wr (.cells #[.int .i64 k, .string ⟨#[105, 110, 116]⟩, .int .i64 nm, .int .i64 c0] 58)) 1)
                    have d2 := (b5.cell (p := ⟨wr.heap.size, 2, none⟩) (by simp)).trans (cell_of_heap (alloc_top wr (.cells #[.int .i64 k, .string ⟨#[105, 110, 116]⟩, .int .i64 nm, .int .i64 c0] 58)) 2)
                    have d3 := (b5.cell (p := ⟨wr.heap.size, 3, none⟩) (by simp)).trans (cell_of_heap (alloc_top wr (.cells #[.int .i64 k, .string ⟨#[105, 110, 116]⟩, .int .i64 nm, .int .i64 c0] 58)) 3)
                    simp only [List.getElem?_toArray, List.getElem?_cons_zero, List.getElem?_cons_succ] at d0 d1 d2 d3
                    clear b5 R BA
                    go_wp2
                    go_ret
                    exact N.out _ BB.out
                | false =>
                  rw [hz] at hc
                  skip
                  try unfold sInt at *
                  by_cases hk2 : k = 32
                  · subst hk2
                    by_cases hn0 : nm = 0
                    · subst hn0
                      have N := Lib.hid (NOJ.out (by rw [RN, if_pos rfl, hc]; rfl))
                      clear YES NOJ RN hc hk
                      go_wp2_with fail
                      refine (R.out _).mono ?_
                      rintro e w5 ⟨rfl, b5⟩
                      have BB := Lib.hid (BA.out.trans (b5.mono BA.out.size))
                      have d0 := (b5.cell (p := ⟨wr.heap.size, 0, none⟩) (by simp)).trans (cell_of_heap (alloc_top wr (.cells #[.int .i64 32, .string ⟨#[105, 110, 116]⟩, .int .i64 0, .int .i64 c0] 58)) 0)
                      have d1 := (b5.cell (p := ⟨wr.heap.size, 1, none⟩) (by simp)).trans (cell_of_heap (alloc_top wr (.cells #[.int .i64 32, .string ⟨#[105, 110, 116]⟩, .int .i64 0, .int .i64 c0] 58)) 1)
                      have d2 := (b5.cell (p := ⟨wr.heap.size, 2, none⟩) (by simp)).trans (cell_of_heap (alloc_top wr (.cells #[.int .i64 32, .string ⟨#[105, 110, 116]⟩, .int .i64 0, .int .i64 c0] 58)) 2)
                      have d3 := (b5.cell (p := ⟨wr.heap.size, 3, none⟩) (by simp)).trans (cell_of_heap (alloc_top wr (.cells #[.int .i64 32, .string ⟨#[105, 110, 116]⟩, .int .i64 0, .int .i64 c0] 58)) 3)
                      simp only [List.getElem?_toArray, List.getElem?_cons_zero, List.getElem?_cons_succ] at d0 d1 d2 d3
                      clear b5 R BA
                      go_wp2
                      go_ret
                      exact N.out _ BB.out
                    · have w1 : (nm == 0) = false := by simpa using hn0
                      have w1' : (nm != 0) = true := by simp [hn0]
                      have N := Lib.hid (NOJ.out (by rw [RN, if_pos rfl, w1]; rfl))
                      clear YES NOJ RN hc hk hn0
                      go_wp2_with fail
                      refine (R.out _).mono ?_
                      rintro e w5 ⟨rfl, b5⟩
                      have BB := Lib.hid (BA.out.trans (b5.mono BA.out.size))
                      have d0 := (b5.cell (p := ⟨wr.heap.size, 0, none⟩) (by simp)).trans (cell_of_heap (alloc_top wr (.cells #[.int .i64 32, .string ⟨#[105, 110, 116]⟩, .int .i64 nm, .int .i64 c0] 58)) 0)
                      have d1 := (b5.cell (p := ⟨wr.heap.size, 1, none⟩) (by simp)).trans (cell_of_heap (alloc_top wr (.cells #[.int .i64 32, .string ⟨#[105, 110, 116]⟩, .int .i64 nm, .int .i64 c0] 58)) 1)
                      have d2 := (b5.cell (p := ⟨wr.heap.size, 2, none⟩) (by simp)).trans (cell_of_heap (alloc_top wr (.cells #[.int .i64 32, .string ⟨#[105, 110, 116]⟩, .int .i64 nm, .int .i64 c0] 58)) 2)
                      have d3 := (b5.cell (p := ⟨wr.heap.size, 3, none⟩) (by simp)).trans (cell_of_heap (alloc_top wr (.cells #[.int .i64 32, .string ⟨#[105, 110, 116]⟩, .int .i64 nm, .int .i64 c0] 58)) 3)
                      simp only [List.getElem?_toArray, List.getElem?_cons_zero, List.getElem?_cons_succ] at d0 d1 d2 d3
                      clear b5 R BA
                      go_wp2
                      go_ret
                      exact N.out _ BB.out
                  · have v1 : (k == 32) = false := by simpa using hk2
                    have v1' : (k != 32) = true := by simp [hk2]
                    have N := Lib.hid (NOJ.out (by rw [RN, if_neg hk2]))
                    clear YES NOJ RN hc hk hk2
                    go_wp2_with fail
                    refine (R.out _).mono ?_
                    rintro e w5 ⟨rfl, b5⟩
                    have BB := Lib.hid (BA.out.trans (b5.mono BA.out.size))
                    have d0 := (b5.cell (p := ⟨wr.heap.size, 0, none⟩) (by simp)).trans (cell_of_heap (alloc_top wr (.cells #[.int .i64 k, .string ⟨#[105, 110, 116]⟩, .int .i64 nm, .int .i64 c0] 58)) 0)
                    have d1 := (b5.cell (p := ⟨wr.heap.size, 1, none⟩) (by simp)).trans (cell_of_heap (alloc_top wr (.cells #[.int .i64 k, .string ⟨#[105, 110, 116]⟩, .int .i64 nm, .int .i64 c0] 58)) 1)
                    have d2 := (b5.cell (p := ⟨wr.heap.size, 2, none⟩) (by simp)).trans (cell_of_heap (alloc_top wr (.cells #[.int .i64 k, .string ⟨#[105, 110, 116]⟩, .int .i64 nm, .int .i64 c0] 58)) 2)
                    have d3 := (b5.cell (p := ⟨wr.heap.size, 3, none⟩) (by simp)).trans (cell_of_heap (alloc_top wr (.cells #[.int .i64 k, .string ⟨#[105, 110, 116]⟩, .int .i64 nm, .int .i64 c0] 58)) 3)
                    simp only [List.getElem?_toArray, List.getElem?_cons_zero, List.getElem?_cons_succ] at d0 d1 d2 d3
                    clear b5 R BA
                    go_wp2
                    go_ret
                    exact N.out _ BB.out
              · have d6 := str_ne h2
                have e6 := str_ne' h2
                rw [tl_int] at d6 e6
                by_cases h3 : s = sText
                · have hc : conB s c0 = (c0 == 0) := by unfold conB; rw [if_neg h1, if_neg h2, if_pos h3]
                  subst h3
                  rw [nm_text] at R
                  clear h1 h2
                  cases hz : (c0 == 0) with
                  | true =>
                    rw [hz] at hc
                    skip
                    try unfold sText at *
                    by_cases hk2 : k = 32
                    · subst hk2
                      by_cases hn0 : nm = 0
                      · subst hn0
                        have Y := Lib.hid (YES.out (by rw [RN, if_pos rfl, hc]; rfl))
                        clear YES NOJ RN hc hk
                        go_wp2_with fail
                        refine (R.out _).mono ?_
                        rintro e w5 ⟨rfl, b5⟩
                        have BB := Lib.hid (BA.out.trans (b5.mono BA.out.size))
                        have d0 := (b5.cell (p := ⟨wr.heap.size, 0, none⟩) (by simp)).trans (cell_of_heap (alloc_top wr (.cells #[.int .i64 32, .string ⟨#[116, 101, 120, 116]⟩, .int .i64 0, .int .i64 c0] 58)) 0)
                        have d1 := (b5.cell (p := ⟨wr.heap.size, 1, none⟩) (by simp)).trans (cell_of_heap (alloc_top wr (.cells #[.int .i64 32, .string ⟨#[116, 101, 120, 116]⟩, .int .i64 0, .int .i64 c0] 58)) 1)
                        have d2 := (b5.cell (p := ⟨wr.heap.size, 2, none⟩) (by simp)).trans (cell_of_heap (alloc_top wr (.cells #[.int .i64 32, .string ⟨#[116, 101, 120, 116]⟩, .int .i64 0, .int .i64 c0] 58)) 2)
                        have d3 := (b5.cell (p := ⟨wr.heap.size, 3, none⟩) (by simp)).trans (cell_of_heap (alloc_top wr (.cells #[.int .i64 32, .string ⟨#[116, 101, 120, 116]⟩, .int .i64 0, .int .i64 c0] 58)) 3)
                        simp only [List.getElem?_toArray, List.getElem?_cons_zero, List.getElem?_cons_succ] at d0 d1 d2 d3
                        clear b5 R BA
                        go_wp2
                        go_roundw
                        case rel => exact ⟨j + 1, by omega, by go_num, Y, BB⟩
                        case measure => simp [intOf]; omega
                      · have w1 : (nm == 0) = false := by simpa using hn0
                        have w1' : (nm != 0) = true := by simp [hn0]
                        have N := Lib.hid (NOJ.out (by rw [RN, if_pos rfl, w1]; rfl))
                        clear YES NOJ RN hc hk hn0
                        go_wp2_with fail
                        refine (R.out _).mono ?_
                        rintro e w5 ⟨rfl, b5⟩
                        have BB := Lib.hid (BA.out.trans (b5.mono BA.out.size))
                        have d0 := (b5.cell (p := ⟨wr.heap.size, 0, none⟩) (by simp)).trans (cell_of_heap (alloc_top wr (.cells #[.int .i64 32, .string ⟨#[116, 101, 120, 116]⟩, .int .i64 nm, .int .i64 c0] 58)) 0)
                        have d1 := (b5.cell (p := ⟨wr.heap.size, 1, none⟩) (by simp)).trans (cell_of_heap (alloc_top wr (.cells #[.int .i64 32, .string ⟨#[116, 101, 120, 116]⟩, .int .i64 nm, .int .i64 c0] 58)) 1)
                        have d2 := (b5.cell (p := ⟨wr.heap.size, 2, none⟩) (by simp)).trans (cell_of_heap (alloc_top wr (.cells #[.int .i64 32, .string ⟨#[116, 101, 120, 116]⟩, .int .i64 nm, .int .i64 c0] 58)) 2)
                        have d3 := (b5.cell (p := ⟨wr.heap.size, 3, none⟩) (by simp)).trans (cell_of_heap (alloc_top wr (.cells #[.int .i64 32, .string ⟨#[116, 101, 120, 116]⟩, .int .i64 nm, .int .i64 c0] 58)) 3)
                        simp only [List.getElem?_toArray, List.getElem?_cons_zero, List.getElem?_cons_succ] at d0 d1 d2 d3
                        clear b5 R BA
                        go_wp2
                        go_ret
                        exact N.out _ BB.out
                    · have v1 : (k == 32) = false := by simpa using hk2
                      have v1' : (k != 32) = true := by simp [hk2]
                      have N := Lib.hid (NOJ.out (by rw [RN, if_neg hk2]))
                      clear YES NOJ RN hc hk hk2
                      go_wp2_with fail
                      refine (R.out _).mono ?_
                      rintro e w5 ⟨rfl, b5⟩
                      have BB := Lib.hid (BA.out.trans (b5.mono BA.out.size))
                      have d0 := (b5.cell (p := ⟨wr.heap.size, 0, none⟩) (by simp)).trans (cell_of_heap (alloc_top wr (.cells #[.int .i64 k, .string ⟨#[116, 101, 120, 116]⟩, .int .i64 nm, .int .i64 c0] 58)) 0)
                      have d1 := (b5.cell (p := ⟨wr.heap.size, 1, none⟩) (by simp)).trans (cell_of_heap (alloc_top wr (.cells #[.int .i64 k, .string ⟨#[116, 101, 120, 116]⟩, .int .i64 nm, .int .i64 c0] 58)) 1)
                      have d2 := (b5.cell (p := ⟨wr.heap.size, 2, none⟩) (by simp)).trans (cell_of_heap (alloc_top wr (.cells #[.int .i64 k, .string ⟨#[116, 101, 120, 116]⟩, .int .i64 nm, .int .i64 c0] 58)) 2)
                      have d3 := (b5.cell (p := ⟨wr.heap.size, 3, none⟩) (by simp)).trans (cell_of_heap (alloc_top wr (.cells #[.int .i64 k, .string ⟨#[116, 101, 120, 116]⟩, .int .i64 nm, .int .i64 c0] 58)) 3)
                      simp only [List.getElem?_toArray, List.getElem?_cons_zero, List.getElem?_cons_succ] at d0 d1 d2 d3
                      clear b5 R BA
                      go_wp2
                      go_ret
                      exact N.out _ BB.out
                  | false =>
                    rw [hz] at hc
                    skip
                    try unfold sText at *
                    by_cases hk2 : k = 32
                    · subst hk2
                      by_cases hn0 : nm = 0
                      · subst hn0
                        have N := Lib.hid (NOJ.out (by rw [RN, if_pos rfl, hc]; rfl))
                        clear YES NOJ RN hc hk
                        go_wp2_with fail
                        refine (R.out _).mono ?_
                        rintro e w5 ⟨rfl, b5⟩
                        have BB := Lib.hid (BA.out.trans (b5.mono BA.out.size))
                        have d0 := (b5.cell (p := ⟨wr.heap.size, 0, none⟩) (by simp)).trans (cell_of_heap (alloc_top wr (.cells #[.int .i64 32, .string ⟨#[116, 101, 120, 116]⟩, .int .i64 0, .int .i64 c0] 58)) 0)
                        have d1 := (b5.cell (p := ⟨wr.heap.size, 1, none⟩) (by simp)).trans (cell_of_heap (alloc_top wr (.cells #[.int .i64 32, .string ⟨#[116, 101, 120, 116]⟩, .int .i64 0, .int .i64 c0] 58)) 1)
                        have d2 := (b5.cell (p := ⟨wr.heap.size, 2, none⟩) (by simp)).trans (cell_of_heap (alloc_top wr (.cells #[.int .i64 32, .string ⟨#[116, 101, 120, 116]⟩, .int .i64 0, .int .i64 c0] 58)) 2)
                        have d3 := (b5.cell (p := ⟨wr.heap.size, 3, none⟩) (by simp)).trans (cell_of_heap (alloc_top wr (.cells #[.int .i64 32, .string ⟨#[116, 101, 120, 116]⟩, .int .i64 0, .int .i64 c0] 58)) 3)
                        simp only [List.getElem?_toArray, List.getElem?_cons_zero, List.getElem?_cons_succ] at d0 d1 d2 d3
                        clear b5 R BA
                        go_wp2
                        go_ret
                        exact N.out _ BB.out
                      · have w1 : (nm == 0) = false := by simpa using hn0
                        have w1' : (nm != 0) = true := by simp [hn0]
                        have N := Lib.hid (NOJ.out (by rw [RN, if_pos rfl, w1]; rfl))
                        clear YES NOJ RN hc hk hn0
                        go_wp2_with fail
                        refine (R.out _).mono ?_
                        rintro e w5 ⟨rfl, b5⟩
                        have BB := Lib.hid (BA.out.trans (b5.mono BA.out.size))
                        have d0 := (b5.cell (p := ⟨wr.heap.size, 0, none⟩) (by simp)).trans (cell_of_heap (alloc_top wr (.cells #[.int .i64 32, .string ⟨#[116, 101, 120, 116]⟩, .int .i64 nm, .int .i64 c0] 58)) 0)
                        have d1 := (b5.cell (p := ⟨wr.heap.size, 1, none⟩) (by simp)).trans (cell_of_heap (alloc_top wr (.cells #[.int .i64 32, .string ⟨#[116, 101, 120, 116]⟩, .int .i64 nm, .int .i64 c0] 58)) 1)
                        have d2 := (b5.cell (p := ⟨wr.heap.size, 2, none⟩) (by simp)).trans (cell_of_heap (alloc_top wr (.cells #[.int .i64 32, .string ⟨#[116, 101, 120, 116]⟩, .int .i64 nm, .int .i64 c0] 58)) 2)
                        have d3 := (b5.cell (p := ⟨wr.heap.size, 3, none⟩) (by simp)).trans (cell_of_heap (alloc_top wr (.cells #[.int .i64 32, .string ⟨#[116, 101, 120, 116]⟩, .int .i64 nm, .int .i64 c0] 58)) 3)
                        simp only [List.getElem?_toArray, List.getElem?_cons_zero, List.getElem?_cons_succ] at d0 d1 d2 d3
                        clear b5 R BA
                        go_wp2
                        go_ret
                        exact N.out _ BB.out
                    · have v1 : (k == 32) = false := by simpa using hk2
                      have v1' : (k != 32) = true := by simp [hk2]
                      have N := Lib.hid (NOJ.out (by rw [RN, if_neg hk2]))
                      clear YES NOJ RN hc hk hk2
                      go_wp2_with fail
                      refine (R.out _).mono ?_
                      rintro e w5 ⟨rfl, b5⟩
                      have BB := Lib.hid (BA.out.trans (b5.mono BA.out.size))
                      have d0 := (b5.cell (p := ⟨wr.heap.size, 0, none⟩) (by simp)).trans (cell_of_heap (alloc_top wr (.cells #[.int .i64 k, .string ⟨#[116, 101, 120, 116]⟩, .int .i64 nm, .int .i64 c0] 58)) 0)
                      have d1 := (b5.cell (p := ⟨wr.heap.size, 1, none⟩) (by simp)).trans (cell_of_heap (alloc_top wr (.cells #[.int .i64 k, .string ⟨#[116, 101, 120, 116]⟩, .int .i64 nm, .int .i64 c0] 58)) 1)
                      have d2 := (b5.cell (p := ⟨wr.heap.size, 2, none⟩) (by simp)).trans (cell_of_heap (alloc_top wr (.cells #[.int .i64 k, .string ⟨#[116, 101, 120, 116]⟩, .int .i64 nm, .int .i64 c0] 58)) 2)
                      have d3 := (b5.cell (p := ⟨wr.heap.size, 3, none⟩) (by simp)).trans (cell_of_heap (alloc_top wr (.cells #[.int .i64 k, .string ⟨#[116, 101, 120, 116]⟩, .int .i64 nm, .int .i64 c0] 58)) 3)
                      simp only [List.getElem?_toArray, List.getElem?_cons_zero, List.getElem?_cons_succ] at d0 d1 d2 d3
                      clear b5 R BA
                      go_wp2
                      go_ret
                      exact N.out _ BB.out
                · have d7 := str_ne h3
                  have e7 := str_ne' h3
                  rw [tl_text] at d7 e7
                  by_cases h4 : s = sRef
                  · have hc : conB s c0 = (c0 == 1) := by unfold conB; rw [if_neg h1, if_neg h2, if_neg h3, if_pos h4]
                    subst h4
                    rw [nm_ref] at R
                    clear h1 h2 h3
                    cases hz : (c0 == 1) with
                    | true =>
                      rw [hz] at hc
                      skip
                      try unfold sRef at *
                      by_cases hk2 : k = 32
                      · subst hk2
                        by_cases hn0 : nm = 0
                        · subst hn0
                          have Y := Lib.hid (YES.out (by rw [RN, if_pos rfl, hc]; rfl))
                          clear YES NOJ RN hc hk
                          go_wp2_with fail
                          refine (R.out _).mono ?_
                          rintro e w5 ⟨rfl, b5⟩
                          have BB := Lib.hid (BA.out.trans (b5.mono BA.out.size))
                          have d0 := (b5.cell (p := ⟨wr.heap.size, 0, none⟩) (by simp)).trans (cell_of_heap (alloc_top wr (.cells #[.int .i64 32, .string ⟨#[114, 101, 102]⟩, .int .i64 0, .int .i64 c0] 58)) 0)
                          have d1 := (b5.cell (p := ⟨wr.heap.size, 1, none⟩) (by simp)).trans (cell_of_heap (alloc_top wr (.cells #[.int .i64 32, .string ⟨#[114, 101, 102]⟩, .int .i64 0, .int .i64 c0] 58)) 1)
                          have d2 := (b5.cell (p := ⟨wr.heap.size, 2, none⟩) (by simp)).trans (cell_of_heap (alloc_top wr (.cells #[.int .i64 32, .string ⟨#[114, 101, 102]⟩, .int .i64 0, .int .i64 c0] 58)) 2)
                          have d3 := (b5.cell (p := ⟨wr.heap.size, 3, none⟩) (by simp)).trans (cell_of_heap (alloc_top wr (.cells #[.int .i64 32, .string ⟨#[114, 101, 102]⟩, .int .i64 0, .int .i64 c0] 58)) 3)
                          simp only [List.getElem?_toArray, List.getElem?_cons_zero, List.getElem?_cons_succ] at d0 d1 d2 d3
                          clear b5 R BA
                          go_wp2
                          go_roundw
                          case rel => exact ⟨j + 1, by omega, by go_num, Y, BB⟩
                          case measure => simp [intOf]; omega
                        · have w1 : (nm == 0) = false := by simpa using hn0
                          have w1' : (nm != 0) = true := by simp [hn0]
                          have N := Lib.hid (NOJ.out (by rw [RN, if_pos rfl, w1]; rfl))
                          clear YES NOJ RN hc hk hn0
                          go_wp2_with fail
                          refine (R.out _).mono ?_
                          rintro e w5 ⟨rfl, b5⟩
                          have BB := Lib.hid (BA.out.trans (b5.mono BA.out.size))
                          have d0 := (b5.cell (p := ⟨wr.heap.size, 0, none⟩) (by simp)).trans (cell_of_heap (alloc_top wr (.cells #[.int .i64 32, .string ⟨#[114, 101, 102]⟩, .int .i64 nm, .int .i64 c0] 58)) 0)
                          have d1 := (b5.cell (p := ⟨wr.heap.size, 1, none⟩) (by simp)).trans (cell_of_heap (alloc_top wr (.cells #[.int .i64 32, .string ⟨#[114, 101, 102]⟩, .int .i64 nm, .int .i64 c0] 58)) 1)
                          have d2 := (b5.cell (p := ⟨wr.heap.size, 2, none⟩) (by simp)).trans (cell_of_heap (alloc_top wr (.cells #[.int .i64 32, .string ⟨#[114, 101, 102]⟩, .int .i64 nm, .int .i64 c0] 58)) 2)
                          have d3 := (b5.cell (p := ⟨wr.heap.size, 3, none⟩) (by simp)).trans (cell_of_heap (alloc_top wr (.cells #[.int .i64 32, .string ⟨#[114, 101, 102]⟩, .int .i64 nm, .int .i64 c0] 58)) 3)
                          simp only [List.getElem?_toArray, List.getElem?_cons_zero, List.getElem?_cons_succ] at d0 d1 d2 d3
                          clear b5 R BA
                          go_wp2
                          go_ret
                          exact N.out _ BB.out
                      · have v1 : (k == 32) = false := by simpa using hk2
                        have v1' : (k != 32) = true := by simp [hk2]
                        have N := Lib.hid (NOJ.out (by rw [RN, if_neg hk2]))
                        clear YES NOJ RN hc hk hk2
                        go_wp2_with fail
                        refine (R.out _).mono ?_
                        rintro e w5 ⟨rfl, b5⟩
                        have BB := Lib.hid (BA.out.trans (b5.mono BA.out.size))
                        have d0 := (b5.cell (p := ⟨wr.heap.size, 0, none⟩) (by simp)).trans (cell_of_heap (alloc_top wr (.cells #[.int .i64 k, .string ⟨#[114, 101, 102]⟩, .int .i64 nm, .int .i64 c0] 58)) 0)
                        have d1 := (b5.cell (p := ⟨wr.heap.size, 1, none⟩) (by simp)).trans (cell_of_heap (alloc_top wr (.cells #[.int .i64 k, .string ⟨#[114, 101, 102]⟩, .int .i64 nm, .int .i64 c0] 58)) 1)
                        have d2 := (b5.cell (p := ⟨wr.heap.size, 2, none⟩) (by simp)).trans (cell_of_heap (alloc_top wr (.cells #[.int .i64 k, .string ⟨#[114, 101, 102]⟩, .int .i64 nm, .int .i64 c0] 58)) 2)
                        have d3 := (b5.cell (p := ⟨wr.heap.size, 3, none⟩) (by simp)).trans (cell_of_heap (alloc_top wr (.cells #[.int .i64 k, .string ⟨#[114, 101, 102]⟩, .int .i64 nm, .int .i64 c0] 58)) 3)
                        simp only [List.getElem?_toArray, List.getElem?_cons_zero, List.getElem?_cons_succ] at d0 d1 d2 d3
                        clear b5 R BA
                        go_wp2
                        go_ret
                        exact N.out _ BB.out
                    | false =>
                      rw [hz] at hc
                      skip
                      try unfold sRef at *
                      by_cases hk2 : k = 32
                      · subst hk2
                        by_cases hn0 : nm = 0
                        · subst hn0
                          have N := Lib.hid (NOJ.out (by rw [RN, if_pos rfl, hc]; rfl))
                          clear YES NOJ RN hc hk
                          go_wp2_with fail
                          refine (R.out _).mono ?_
                          rintro e w5 ⟨rfl, b5⟩
                          have BB := Lib.hid (BA.out.trans (b5.mono BA.out.size))
                          have d0 := (b5.cell (p := ⟨wr.heap.size, 0, none⟩) (by simp)).trans (cell_of_heap (alloc_top wr (.cells #[.int .i64 32, .string ⟨#[114, 101, 102]⟩, .int .i64 0, .int .i64 c0] 58)) 0)
                          have d1 := (b5.cell (p := ⟨wr.heap.size, 1, none⟩) (by simp)).trans (cell_of_heap (alloc_top wr (.cells #[.int .i64 32, .string ⟨#[114, 101, 102]⟩, .int .i64 0, .int .i64 c0] 58)) 1)
                          have d2 := (b5.cell (p := ⟨wr.heap.size, 2, none⟩) (by simp)).trans (cell_of_heap (alloc_top wr (.cells #[.int .i64 32, .string ⟨#[114, 101, 102]⟩, .int .i64 0, .int .i64 c0] 58)) 2)
                          have d3 := (b5.cell (p := ⟨wr.heap.size, 3, none⟩) (by simp)).trans (cell_of_heap (alloc_top wr (.cells #[.int .i64 32, .string ⟨#[114, 101, 102]⟩, .int .i64 0, .int .i64 c0] 58)) 3)
                          simp only [List.getElem?_toArray, List.getElem?_cons_zero, List.getElem?_cons_succ] at d0 d1 d2 d3
                          clear b5 R BA
                          go_wp2
                          go_ret
                          exact N.out _ BB.out
                        · have w1 : (nm == 0) = false := by simpa using hn0
                          have w1' : (nm != 0) = true := by simp [hn0]
                          have N := Lib.hid (NOJ.out (by rw [RN, if_pos rfl, w1]; rfl))
                          clear YES NOJ RN hc hk hn0
                          go_wp2_with fail
                          refine (R.out _).mono ?_
                          rintro e w5 ⟨rfl, b5⟩
                          have BB := Lib.hid (BA.out.trans (b5.mono BA.out.size))
                          have d0 := (b5.cell (p := ⟨wr.heap.size, 0, none⟩) (by simp)).trans (cell_of_heap (alloc_top wr (.cells #[.int .i64 32, .string ⟨#[114, 101, 102]⟩, .int .i64 nm, .int .i64 c0] 58)) 0)
                          have d1 := (b5.cell (p := ⟨wr.heap.size, 1, none⟩) (by simp)).trans (cell_of_heap (alloc_top wr (.cells #[.int .i64 32, .string ⟨#[114, 101, 102]⟩, .int .i64 nm, .int .i64 c0] 58)) 1)
                          have d2 := (b5.cell (p := ⟨wr.heap.size, 2, none⟩) (by simp)).trans (cell_of_heap (alloc_top wr (.cells #[.int .i64 32, .string ⟨#[114, 101, 102]⟩, .int .i64 nm, .int .i64 c0] 58)) 2)
                          have d3 := (b5.cell (p := ⟨wr.heap.size, 3, none⟩) (by simp)).trans (cell_of_heap (alloc_top wr (.cells #[.int .i64 32, .string ⟨#[114, 101, 102]⟩, .int .i64 nm, .int .i64 c0] 58)) 3)
                          simp only [List.getElem?_toArray, List.getElem?_cons_zero, List.getElem?_cons_succ] at d0 d1 d2 d3
                          clear b5 R BA
                          go_wp2
                          go_ret
                          exact N.out _ BB.out
                      · have v1 : (k == 32) = false := by simpa using hk2
                        have v1' : (k != 32) = true := by simp [hk2]
                        have N := Lib.hid (NOJ.out (by rw [RN, if_neg hk2]))
                        clear YES NOJ RN hc hk hk2
                        go_wp2_with fail
                        refine (R.out _).mono ?_
                        rintro e w5 ⟨rfl, b5⟩
                        have BB := Lib.hid (BA.out.trans (b5.mono BA.out.size))
                        have d0 := (b5.cell (p := ⟨wr.heap.size, 0, none⟩) (by simp)).trans (cell_of_heap (alloc_top wr (.cells #[.int .i64 k, .string ⟨#[114, 101, 102]⟩, .int .i64 nm, .int .i64 c0] 58)) 0)
                        have d1 := (b5.cell (p := ⟨wr.heap.size, 1, none⟩) (by simp)).trans (cell_of_heap (alloc_top wr (.cells #[.int .i64 k, .string ⟨#[114, 101, 102]⟩, .int .i64 nm, .int .i64 c0] 58)) 1)
                        have d2 := (b5.cell (p := ⟨wr.heap.size, 2, none⟩) (by simp)).trans (cell_of_heap (alloc_top wr (.cells #[.int .i64 k, .string ⟨#[114, 101, 102]⟩, .int .i64 nm, .int .i64 c0] 58)) 2)
                        have d3 := (b5.cell (p := ⟨wr.heap.size, 3, none⟩) (by simp)).trans (cell_of_heap (alloc_top wr (.cells #[.int .i64 k, .string ⟨#[114, 101, 102]⟩, .int .i64 nm, .int .i64 c0] 58)) 3)
                        simp only [List.getElem?_toArray, List.getElem?_cons_zero, List.getElem?_cons_succ] at d0 d1 d2 d3
                        clear b5 R BA
                        go_wp2
                        go_ret
                        exact N.out _ BB.out
                  · have d8 := str_ne h4
                    have e8 := str_ne' h4
                    rw [tl_ref] at d8 e8
                    have hc : conB s c0 = (decide (c0 ≤ 8) && nameB s) := by unfold conB; rw [if_neg h1, if_neg h2, if_neg h3, if_neg h4]
                    clear h1 h2 h3 h4
                    cases hy : nameB s with
                    | false =>
                      rw [hy] at hc R
                      rw [Bool.and_false] at hc
                      by_cases hk2 : k = 32
                      · subst hk2
                        by_cases hn0 : nm = 0
                        · subst hn0
                          have N := Lib.hid (NOJ.out (by rw [RN, if_pos rfl, hc]; rfl))
                          clear YES NOJ RN hc hk
                          go_wp2_with fail
                          refine (R.out _).mono ?_
                          rintro e w5 ⟨rfl, b5⟩
                          have BB := Lib.hid (BA.out.trans (b5.mono BA.out.size))
                          have d0 := (b5.cell (p := ⟨wr.heap.size, 0, none⟩) (by simp)).trans (cell_of_heap (alloc_top wr (.cells #[.int .i64 32, .string s, .int .i64 0, .int .i64 c0] 58)) 0)
                          have d1 := (b5.cell (p := ⟨wr.heap.size, 1, none⟩) (by simp)).trans (cell_of_heap (alloc_top wr (.cells #[.int .i64 32, .string s, .int .i64 0, .int .i64 c0] 58)) 1)
                          have d2 := (b5.cell (p := ⟨wr.heap.size, 2, none⟩) (by simp)).trans (cell_of_heap (alloc_top wr (.cells #[.int .i64 32, .string s, .int .i64 0, .int .i64 c0] 58)) 2)
                          have d3 := (b5.cell (p := ⟨wr.heap.size, 3, none⟩) (by simp)).trans (cell_of_heap (alloc_top wr (.cells #[.int .i64 32, .string s, .int .i64 0, .int .i64 c0] 58)) 3)
                          simp only [List.getElem?_toArray, List.getElem?_cons_zero, List.getElem?_cons_succ] at d0 d1 d2 d3
                          clear b5 R BA
                          go_wp2
                          go_ret
                          exact N.out _ BB.out
                        · have w1 : (nm == 0) = false := by simpa using hn0
                          have w1' : (nm != 0) = true := by simp [hn0]
                          have N := Lib.hid (NOJ.out (by rw [RN, if_pos rfl, w1]; rfl))
                          clear YES NOJ RN hc hk hn0
                          go_wp2_with fail
                          refine (R.out _).mono ?_
                          rintro e w5 ⟨rfl, b5⟩
                          have BB := Lib.hid (BA.out.trans (b5.mono BA.out.size))
                          have d0 := (b5.cell (p := ⟨wr.heap.size, 0, none⟩) (by simp)).trans (cell_of_heap (alloc_top wr (.cells #[.int .i64 32, .string s, .int .i64 nm, .int .i64 c0] 58)) 0)
                          have d1 := (b5.cell (p := ⟨wr.heap.size, 1, none⟩) (by simp)).trans (cell_of_heap (alloc_top wr (.cells #[.int .i64 32, .string s, .int .i64 nm, .int .i64 c0] 58)) 1)
                          have d2 := (b5.cell (p := ⟨wr.heap.size, 2, none⟩) (by simp)).trans (cell_of_heap (alloc_top wr (.cells #[.int .i64 32, .string s, .int .i64 nm, .int .i64 c0] 58)) 2)
                          have d3 := (b5.cell (p := ⟨wr.heap.size, 3, none⟩) (by simp)).trans (cell_of_heap (alloc_top wr (.cells #[.int .i64 32, .string s, .int .i64 nm, .int .i64 c0] 58)) 3)
                          simp only [List.getElem?_toArray, List.getElem?_cons_zero, List.getElem?_cons_succ] at d0 d1 d2 d3
                          clear b5 R BA
                          go_wp2
                          go_ret
                          exact N.out _ BB.out
                      · have v1 : (k == 32) = false := by simpa using hk2
                        have v1' : (k != 32) = true := by simp [hk2]
                        have N := Lib.hid (NOJ.out (by rw [RN, if_neg hk2]))
                        clear YES NOJ RN hc hk hk2
                        go_wp2_with fail
                        refine (R.out _).mono ?_
                        rintro e w5 ⟨rfl, b5⟩
                        have BB := Lib.hid (BA.out.trans (b5.mono BA.out.size))
                        have d0 := (b5.cell (p := ⟨wr.heap.size, 0, none⟩) (by simp)).trans (cell_of_heap (alloc_top wr (.cells #[.int .i64 k, .string s, .int .i64 nm, .int .i64 c0] 58)) 0)
                        have d1 := (b5.cell (p := ⟨wr.heap.size, 1, none⟩) (by simp)).trans (cell_of_heap (alloc_top wr (.cells #[.int .i64 k, .string s, .int .i64 nm, .int .i64 c0] 58)) 1)
                        have d2 := (b5.cell (p := ⟨wr.heap.size, 2, none⟩) (by simp)).trans (cell_of_heap (alloc_top wr (.cells #[.int .i64 k, .string s, .int .i64 nm, .int .i64 c0] 58)) 2)
                        have d3 := (b5.cell (p := ⟨wr.heap.size, 3, none⟩) (by simp)).trans (cell_of_heap (alloc_top wr (.cells #[.int .i64 k, .string s, .int .i64 nm, .int .i64 c0] 58)) 3)
                        simp only [List.getElem?_toArray, List.getElem?_cons_zero, List.getElem?_cons_succ] at d0 d1 d2 d3
                        clear b5 R BA
                        go_wp2
                        go_ret
                        exact N.out _ BB.out
                    | true =>
                      rw [hy] at hc R
                      rw [Bool.and_true] at hc
                      cases hz : decide (c0 ≤ 8) with
                      | true =>
                        rw [hz] at hc
                        by_cases hk2 : k = 32
                        · subst hk2
                          by_cases hn0 : nm = 0
                          · subst hn0
                            have Y := Lib.hid (YES.out (by rw [RN, if_pos rfl, hc]; rfl))
                            clear YES NOJ RN hc hk
                            go_wp2_with fail
                            refine (R.out _).mono ?_
                            rintro e w5 ⟨rfl, b5⟩
                            have BB := Lib.hid (BA.out.trans (b5.mono BA.out.size))
                            have d0 := (b5.cell (p := ⟨wr.heap.size, 0, none⟩) (by simp)).trans (cell_of_heap (alloc_top wr (.cells #[.int .i64 32, .string s, .int .i64 0, .int .i64 c0] 58)) 0)
                            have d1 := (b5.cell (p := ⟨wr.heap.size, 1, none⟩) (by simp)).trans (cell_of_heap (alloc_top wr (.cells #[.int .i64 32, .string s, .int .i64 0, .int .i64 c0] 58)) 1)
                            have d2 := (b5.cell (p := ⟨wr.heap.size, 2, none⟩) (by simp)).trans (cell_of_heap (alloc_top wr (.cells #[.int .i64 32, .string s, .int .i64 0, .int .i64 c0] 58)) 2)
                            have d3 := (b5.cell (p := ⟨wr.heap.size, 3, none⟩) (by simp)).trans (cell_of_heap (alloc_top wr (.cells #[.int .i64 32, .string s, .int .i64 0, .int .i64 c0] 58)) 3)
                            simp only [List.getElem?_toArray, List.getElem?_cons_zero, List.getElem?_cons_succ] at d0 d1 d2 d3
                            clear b5 R BA
                            go_wp2
                            go_roundw
                            case rel => exact ⟨j + 1, by omega, by go_num, Y, BB⟩
                            case measure => simp [intOf]; omega
                          · have w1 : (nm == 0) = false := by simpa using hn0
                            have w1' : (nm != 0) = true := by simp [hn0]
                            have N := Lib.hid (NOJ.out (by rw [RN, if_pos rfl, w1]; rfl))
                            clear YES NOJ RN hc hk hn0
                            go_wp2_with fail
                            refine (R.out _).mono ?_
                            rintro e w5 ⟨rfl, b5⟩
                            have BB := Lib.hid (BA.out.trans (b5.mono BA.out.size))
                            have d0 := (b5.cell (p := ⟨wr.heap.size, 0, none⟩) (by simp)).trans (cell_of_heap (alloc_top wr (.cells #[.int .i64 32, .string s, .int .i64 nm, .int .i64 c0] 58)) 0)
                            have d1 := (b5.cell (p := ⟨wr.heap.size, 1, none⟩) (by simp)).trans (cell_of_heap (alloc_top wr (.cells #[.int .i64 32, .string s, .int .i64 nm, .int .i64 c0] 58)) 1)
                            have d2 := (b5.cell (p := ⟨wr.heap.size, 2, none⟩) (by simp)).trans (cell_of_heap (alloc_top wr (.cells #[.int .i64 32, .string s, .int .i64 nm, .int .i64 c0] 58)) 2)
                            have d3 := (b5.cell (p := ⟨wr.heap.size, 3, none⟩) (by simp)).trans (cell_of_heap (alloc_top wr (.cells #[.int .i64 32, .string s, .int .i64 nm, .int .i64 c0] 58)) 3)
                            simp only [List.getElem?_toArray, List.getElem?_cons_zero, List.getElem?_cons_succ] at d0 d1 d2 d3
                            clear b5 R BA
                            go_wp2
                            go_ret
                            exact N.out _ BB.out
                        · have v1 : (k == 32) = false := by simpa using hk2
                          have v1' : (k != 32) = true := by simp [hk2]
                          have N := Lib.hid (NOJ.out (by rw [RN, if_neg hk2]))
                          clear YES NOJ RN hc hk hk2
                          go_wp2_with fail
                          refine (R.out _).mono ?_
                          rintro e w5 ⟨rfl, b5⟩
                          have BB := Lib.hid (BA.out.trans (b5.mono BA.out.size))
                          have d0 := (b5.cell (p := ⟨wr.heap.size, 0, none⟩) (by simp)).trans (cell_of_heap (alloc_top wr (.cells #[.int .i64 k, .string s, .int .i64 nm, .int .i64 c0] 58)) 0)
                          have d1 := (b5.cell (p := ⟨wr.heap.size, 1, none⟩) (by simp)).trans (cell_of_heap (alloc_top wr (.cells #[.int .i64 k, .string s, .int .i64 nm, .int .i64 c0] 58)) 1)
                          have d2 := (b5.cell (p := ⟨wr.heap.size, 2, none⟩) (by simp)).trans (cell_of_heap (alloc_top wr (.cells #[.int .i64 k, .string s, .int .i64 nm, .int .i64 c0] 58)) 2)
                          have d3 := (b5.cell (p := ⟨wr.heap.size, 3, none⟩) (by simp)).trans (cell_of_heap (alloc_top wr (.cells #[.int .i64 k, .string s, .int .i64 nm, .int .i64 c0] 58)) 3)
                          simp only [List.getElem?_toArray, List.getElem?_cons_zero, List.getElem?_cons_succ] at d0 d1 d2 d3
                          clear b5 R BA
                          go_wp2
                          go_ret
                          exact N.out _ BB.out
                      | false =>
                        rw [hz] at hc
                        by_cases hk2 : k = 32
                        · subst hk2
                          by_cases hn0 : nm = 0
                          · subst hn0
                            have N := Lib.hid (NOJ.out (by rw [RN, if_pos rfl, hc]; rfl))
                            clear YES NOJ RN hc hk
                            go_wp2_with fail
                            refine (R.out _).mono ?_
                            rintro e w5 ⟨rfl, b5⟩
                            have BB := Lib.hid (BA.out.trans (b5.mono BA.out.size))
                            have d0 := (b5.cell (p := ⟨wr.heap.size, 0, none⟩) (by simp)).trans (cell_of_heap (alloc_top wr (.cells #[.int .i64 32, .string s, .int .i64 0, .int .i64 c0] 58)) 0)
                            have d1 := (b5.cell (p := ⟨wr.heap.size, 1, none⟩) (by simp)).trans (cell_of_heap (alloc_top wr (.cells #[.int .i64 32, .string s, .int .i64 0, .int .i64 c0] 58)) 1)
                            have d2 := (b5.cell (p := ⟨wr.heap.size, 2, none⟩) (by simp)).trans (cell_of_heap (alloc_top wr (.cells #[.int .i64 32, .string s, .int .i64 0, .int .i64 c0] 58)) 2)
                            have d3 := (b5.cell (p := ⟨wr.heap.size, 3, none⟩) (by simp)).trans (cell_of_heap (alloc_top wr (.cells #[.int .i64 32, .string s, .int .i64 0, .int .i64 c0] 58)) 3)
                            simp only [List.getElem?_toArray, List.getElem?_cons_zero, List.getElem?_cons_succ] at d0 d1 d2 d3
                            clear b5 R BA
                            go_wp2
                            go_ret
                            exact N.out _ BB.out
                          · have w1 : (nm == 0) = false := by simpa using hn0
                            have w1' : (nm != 0) = true := by simp [hn0]
                            have N := Lib.hid (NOJ.out (by rw [RN, if_pos rfl, w1]; rfl))
                            clear YES NOJ RN hc hk hn0
                            go_wp2_with fail
                            refine (R.out _).mono ?_
                            rintro e w5 ⟨rfl, b5⟩
                            have BB := Lib.hid (BA.out.trans (b5.mono BA.out.size))
                            have d0 := (b5.cell (p := ⟨wr.heap.size, 0, none⟩) (by simp)).trans (cell_of_heap (alloc_top wr (.cells #[.int .i64 32, .string s, .int .i64 nm, .int .i64 c0] 58)) 0)
                            have d1 := (b5.cell (p := ⟨wr.heap.size, 1, none⟩) (by simp)).trans (cell_of_heap (alloc_top wr (.cells #[.int .i64 32, .string s, .int .i64 nm, .int .i64 c0] 58)) 1)
                            have d2 := (b5.cell (p := ⟨wr.heap.size, 2, none⟩) (by simp)).trans (cell_of_heap (alloc_top wr (.cells #[.int .i64 32, .string s, .int .i64 nm, .int .i64 c0] 58)) 2)
                            have d3 := (b5.cell (p := ⟨wr.heap.size, 3, none⟩) (by simp)).trans (cell_of_heap (alloc_top wr (.cells #[.int .i64 32, .string s, .int .i64 nm, .int .i64 c0] 58)) 3)
                            simp only [List.getElem?_toArray, List.getElem?_cons_zero, List.getElem?_cons_succ] at d0 d1 d2 d3
                            clear b5 R BA
                            go_wp2
                            go_ret
                            exact N.out _ BB.out
                        · have v1 : (k == 32) = false := by simpa using hk2
                          have v1' : (k != 32) = true := by simp [hk2]
                          have N := Lib.hid (NOJ.out (by rw [RN, if_neg hk2]))
                          clear YES NOJ RN hc hk hk2
                          go_wp2_with fail
                          refine (R.out _).mono ?_
                          rintro e w5 ⟨rfl, b5⟩
                          have BB := Lib.hid (BA.out.trans (b5.mono BA.out.size))
                          have d0 := (b5.cell (p := ⟨wr.heap.size, 0, none⟩) (by simp)).trans (cell_of_heap (alloc_top wr (.cells #[.int .i64 k, .string s, .int .i64 nm, .int .i64 c0] 58)) 0)
                          have d1 := (b5.cell (p := ⟨wr.heap.size, 1, none⟩) (by simp)).trans (cell_of_heap (alloc_top wr (.cells #[.int .i64 k, .string s, .int .i64 nm, .int .i64 c0] 58)) 1)
                          have d2 := (b5.cell (p := ⟨wr.heap.size, 2, none⟩) (by simp)).trans (cell_of_heap (alloc_top wr (.cells #[.int .i64 k, .string s, .int .i64 nm, .int .i64 c0] 58)) 2)
                          have d3 := (b5.cell (p := ⟨wr.heap.size, 3, none⟩) (by simp)).trans (cell_of_heap (alloc_top wr (.cells #[.int .i64 k, .string s, .int .i64 nm, .int .i64 c0] 58)) 3)
                          simp only [List.getElem?_toArray, List.getElem?_cons_zero, List.getElem?_cons_succ] at d0 d1 d2 d3
                          clear b5 R BA
                          go_wp2
                          go_ret
                          exact N.out _ BB.out
        · obtain rfl : j = l := by omega
          have et : t.take j = t := List.take_of_length_le (by rw [← HL.out]; omega)
          rw [et] at hV
          have E : Hid (RrP t w (.returned (.bool true)) wr) := ⟨by rw [HT.out, hV.out], hB.out⟩
          clear hV hlt et hB NO
          go_wp2
          go_ret
          exact E.out
end Go.Proofs.YtncifeeinogcnaaGreatDoor
