/- Texts of this seat, one behind the other: ParCu, ParOp, ParTb. -/
import Derived.Test.YtggjckalmlploaaGreatDoorKn49
import Derived.Test.YtggjckalmlploaaGreatDoorKn48
import Derived.OpenShut
import Derived.ShutString
import Derived.ChangeOld
import Derived.Deep.Slices
import Derived.Deep.Fields
import Derived.Lib.SmallJoins
import Derived.Lib.LaidTab
import Derived.LaidMore
import Derived.ProofKit
import Derived.Stop.Joined
/- The walk of ParseCuts. -/
set_option maxRecDepth 100000
namespace Go.Proofs.YtggjckalmlploaaGreatDoor
open Go.Shelf Go.RowKit Go.Lib Go.Proofs.TreeMath Go.Proofs.LexMath Go.Proofs.FixMath Go.Proofs.ParMath
theorem cut_text (s t : ByteArray) : ((⟨#[40]⟩ : ByteArray) ++ s ++ ⟨#[10, 41, 40]⟩ ++ t ++ ⟨#[10, 41]⟩).data.toList = 40 :: (s.data.toList ++ 10 :: 41 :: 40 :: (t.data.toList ++ 10 :: [41])) := by
  simp [ByteArray.data_append]
theorem lists_pair {w : World} {u v : Value} {a b : List Nd} (h1 : NodesAt w u a) (h2 : NodesAt w v b) : ListsAt (w.alloc (.cells #[u, v] 25)) (.slice (some ⟨w.heap.size, 0, none⟩) 2 2) [a, b] := by
  refine ⟨[u, v], lit_slice (size := 1) (A := #[u, v]) rfl (by decide), fun i hi => ?_⟩
  rcases i with _ | _ | i
  · exact h1.below (lit_below w _)
  · exact h2.below (lit_below w _)
  · exact absurd hi (by simp)
set_option maxHeartbeats 4000000 in
theorem cuts_far (s t : ByteArray) (q : Option Addr) (n c : Nat) (w : World) (h : 300 < s.size ∨ 300 < t.size) (ht : Tab w) : Calls Tryz.prog 5 #[.string s, .string t, .slice q n c] w (RB true w) := by
  have HT := Lib.hid ht
  clear ht
  by_cases h1 : 300 < s.size
  · have d1 : decide ((300 : Int) < (s.size : Int)) = true := by simp; omega
    clear h h1
    go_enter Tryz.func5, Tryz.ntmps5
    go_wp2_with fail
    refine (awake_any w HT.out).mono ?_
    rintro e w1 ⟨rfl, b1⟩
    have B1 := Lib.hid b1
    have T1 := Lib.hid (HT.out.below b1)
    clear b1
    go_wp2_with fail
    refine (awake_any w1 T1.out).mono ?_
    rintro e w2 ⟨rfl, b2⟩
    have B2 := Lib.hid (B1.out.trans (b2.mono B1.out.size))
    clear b2
    go_wp2_with fail
    go_ret
    exact ⟨rfl, B2.out⟩
  · have d1 : decide ((300 : Int) < (s.size : Int)) = false := by simp; omega
    have d2 : decide ((300 : Int) < (t.size : Int)) = true := by simp; omega
    clear h h1
    go_enter Tryz.func5, Tryz.ntmps5
    go_wp2_with fail
    refine (awake_any w HT.out).mono ?_
    rintro e w1 ⟨rfl, b1⟩
    have B1 := Lib.hid b1
    have T1 := Lib.hid (HT.out.below b1)
    clear b1
    go_wp2_with fail
    refine (awake_any w1 T1.out).mono ?_
    rintro e w2 ⟨rfl, b2⟩
    have B2 := Lib.hid (B1.out.trans (b2.mono B1.out.size))
    clear b2
    go_wp2_with fail
    go_ret
    exact ⟨rfl, B2.out⟩
set_option maxHeartbeats 8000000 in
theorem cuts_walk (s t : ByteArray) (v : Value) (fs : List Fx) (w : World) (h : Lx.FixAt w v fs) (ht : Tab w) : Calls Tryz.prog 5 #[.string s, .string t, v] w (RB true w) := by
  obtain ⟨q, c, rfl⟩ := Lx.fix_form h
  by_cases h3 : 300 < s.size ∨ 300 < t.size
  · exact cuts_far s t q _ c w h3 ht
  have HFX := Lib.hid h
  have HT := Lib.hid ht
  have d1 : decide ((300 : Int) < (s.size : Int)) = false := by simp; omega
  have d2 : decide ((300 : Int) < (t.size : Int)) = false := by simp; omega
  have hs3 : s.size ≤ 300 := by omega
  have ht3 : t.size ≤ 300 := by omega
  clear h ht h3
  cases hfw : Lx.fewB fs with
  | false =>
    go_enter Tryz.func5, Tryz.ntmps5
    go_wp2_with fail
    refine (awake_any w HT.out).mono ?_
    rintro e w1 ⟨rfl, b1⟩
    have B1 := Lib.hid b1
    have T1 := Lib.hid (HT.out.below b1)
    have FW := Lx.few_any _ fs w1 (Lx.SliceAt.below HFX.out b1)
    rw [hfw] at FW
    have FW := Lib.hid FW
    clear b1 hfw
    go_wp2_with fail
    refine FW.out.mono ?_
    rintro e w1' ⟨rfl, rfl⟩
    go_wp2_with fail
    refine (awake_any w1 T1.out).mono ?_
    rintro e w2 ⟨rfl, b2⟩
    have B2 := Lib.hid (B1.out.trans (b2.mono B1.out.size))
    clear b2
    go_wp2_with fail
    go_ret
    exact ⟨rfl, B2.out⟩
  | true =>
    have hfl := few_sm hfw
    have HFL := Lib.hid hfl
    have PG := Lib.hid (prs_nodes (s := s) (fs := fs) (by omega))
    have PG2 := Lib.hid (prs_nodes (s := t) (fs := fs) (by omega))
    obtain ⟨u, hu⟩ : ∃ u, u = (⟨#[40]⟩ : ByteArray) ++ s ++ ⟨#[10, 41, 40]⟩ ++ t ++ ⟨#[10, 41]⟩ := ⟨_, rfl⟩
    have hut := cut_text s t
    rw [← hu] at hut
    have husz : u.size ≤ 700 := by
      have e := congrArg List.length hut
      simp only [List.length_cons, List.length_append, List.length_nil] at e
      have e1 : u.data.toList.length = u.size := rfl
      have e2 : s.data.toList.length = s.size := rfl
      have e3 : t.data.toList.length = t.size := rfl
      omega
    have TW := Lib.hid (fun a b => prs_two (s := s) (t := t) (fs := fs) hs3 ht3 a b hut)
    have PG3 := Lib.hid (prs_nodes (s := u) (fs := fs) husz)
    obtain ⟨R, hR⟩ : ∃ R, R = prs s fs := ⟨_, rfl⟩
    obtain ⟨S, hS⟩ : ∃ S, S = prs t fs := ⟨_, rfl⟩
    obtain ⟨U, hU⟩ : ∃ U, U = prs u fs := ⟨_, rfl⟩
    rw [← hR] at PG
    rw [← hS] at PG2
    rw [← hU] at PG3
    rw [← hR, ← hS, ← hU] at TW
    have KR : Hid (∀ fv W, Lx.FixAt W fv fs → Tab W → Calls Tryz.prog 8 #[.string s, fv] W (R3 R W)) := Lib.hid fun fv W h1 h2 => by rw [hR]; exact prs_any s fv fs W h1 hfl.1 hfl.2 (by omega) h2
    have KS : Hid (∀ fv W, Lx.FixAt W fv fs → Tab W → Calls Tryz.prog 8 #[.string t, fv] W (R3 S W)) := Lib.hid fun fv W h1 h2 => by rw [hS]; exact prs_any t fv fs W h1 hfl.1 hfl.2 (by omega) h2
    have KU : Hid (∀ fv W, Lx.FixAt W fv fs → Tab W → Calls Tryz.prog 8 #[.string ((⟨#[40]⟩ : ByteArray) ++ s ++ ⟨#[10, 41, 40]⟩ ++ t ++ ⟨#[10, 41]⟩), fv] W (R3 U W)) := Lib.hid fun fv W h1 h2 => by rw [hU, ← hu]; exact prs_any u fv fs W h1 hfl.1 hfl.2 husz h2
    obtain ⟨rn, ra, re⟩ := R
    obtain ⟨sn, sa, se⟩ := S
    obtain ⟨un, ua, ue⟩ := U
    simp only at PG PG2 PG3 TW
    clear hfl hR hS hU hu hut husz
    go_enter Tryz.func5, Tryz.ntmps5
    go_wp2_with fail
    refine (awake_any w HT.out).mono ?_
    rintro e w1 ⟨rfl, b1⟩
    have B1 := Lib.hid b1
    have T1 := Lib.hid (HT.out.below b1)
    have F1 := Lib.hid (Lx.SliceAt.below HFX.out b1)
    have FW := Lx.few_any _ fs w1 F1.out
    rw [hfw] at FW
    have FW := Lib.hid FW
    clear b1 hfw
    go_wp2_with fail
    refine FW.out.mono ?_
    rintro e w1' ⟨rfl, rfl⟩
    go_wp2_with fail
    refine (Lx.own_any _ fs w1 F1.out (by have := HFL.out.1; omega)).mono ?_
    rintro e w2 ⟨v2, rfl, hf2, b2⟩
    obtain ⟨q2, c2, rfl⟩ := Lx.fix_form hf2
    have B2 := Lib.hid (B1.out.trans (b2.mono B1.out.size))
    have T2 := Lib.hid (T1.out.below b2)
    have F2 := Lib.hid (Lx.SliceAt.below F1.out b2)
    have K := Lib.hid (KR.out _ w2 hf2 T2.out)
    clear b2 hf2
    go_wp2_with fail
    refine (show Calls _ _ _ _ _ from K.out).mono ?_
    rintro e w3 ⟨v3, rfl, hv3, b3⟩
    obtain ⟨q3, c3, rfl⟩ : ∃ q c, v3 = .slice q rn.length c := by obtain ⟨_, q, c, e, _⟩ := hv3; exact ⟨q, c, e⟩
    have V3 := Lib.hid hv3
    have B3 := Lib.hid (B2.out.trans (b3.mono B2.out.size))
    have T3 := Lib.hid (T2.out.below b3)
    have F3 := Lib.hid (Lx.SliceAt.below F2.out b3)
    clear hv3 b3 K
    simp only at V3 ⊢
    go_wp2_with fail
    refine (Lx.own_any _ fs w3 F3.out (by have := HFL.out.1; omega)).mono ?_
    rintro e w4 ⟨v4, rfl, hf4, b4⟩
    obtain ⟨q4, c4, rfl⟩ := Lx.fix_form hf4
    have B4 := Lib.hid (B3.out.trans (b4.mono B3.out.size))
    have T4 := Lib.hid (T3.out.below b4)
    have F4 := Lib.hid (Lx.SliceAt.below F3.out b4)
    have V4 := Lib.hid (V3.out.below b4)
    have K := Lib.hid (KS.out _ w4 hf4 T4.out)
    clear b4 hf4
    go_wp2_with fail
    refine (show Calls _ _ _ _ _ from K.out).mono ?_
    rintro e w5 ⟨v5, rfl, hv5, b5⟩
    obtain ⟨q5, c5, rfl⟩ : ∃ q c, v5 = .slice q sn.length c := by obtain ⟨_, q, c, e, _⟩ := hv5; exact ⟨q, c, e⟩
    have B5 := Lib.hid (B4.out.trans (b5.mono B4.out.size))
    have T5 := Lib.hid (T4.out.below b5)
    have F5 := Lib.hid (Lx.SliceAt.below F4.out b5)
    have V5 := Lib.hid (V4.out.below b5)
    have U5 := Lib.hid hv5
    clear hv5 b5 K
    simp only at U5 ⊢
    by_cases he : re = 0
    · subst he
      obtain ⟨rl, -⟩ := (PG.out rfl).2
      by_cases hf : se = 0
      · subst hf
        obtain ⟨sl, -⟩ := (PG2.out rfl).2
        by_cases hlen : 100 < rn.length + sn.length
        · have d3 : decide ((100 : Int) < (rn.length : Int) + (sn.length : Int)) = true := by simp; omega
          clear hlen
          go_wp2_with fail
          go_ret
          exact ⟨rfl, B5.out⟩
        · have d3 : decide ((100 : Int) < (rn.length : Int) + (sn.length : Int)) = false := by simp; omega
          have TW2 := Lib.hid (TW.out rfl rfl)
          clear hlen
          go_wp2_with fail
          refine (Lx.own_any _ fs w5 F5.out (by have := HFL.out.1; omega)).mono ?_
          rintro e w6 ⟨v6, rfl, hf6, b6⟩
          obtain ⟨q6, c6, rfl⟩ := Lx.fix_form hf6
          have B6 := Lib.hid (B5.out.trans (b6.mono B5.out.size))
          have T6 := Lib.hid (T5.out.below b6)
          have V6 := Lib.hid (V5.out.below b6)
          have U6 := Lib.hid (U5.out.below b6)
          have K := Lib.hid (KU.out _ w6 hf6 T6.out)
          clear b6 hf6
          go_wp2_with fail
          refine (show Calls _ _ _ _ _ from K.out).mono ?_
          rintro e w7 ⟨v7, rfl, hv7, b7⟩
          obtain ⟨q7, c7, rfl⟩ : ∃ q c, v7 = .slice q un.length c := by obtain ⟨_, q, c, e, _⟩ := hv7; exact ⟨q, c, e⟩
          have B7 := Lib.hid (B6.out.trans (b7.mono B6.out.size))
          have V7 := Lib.hid (V6.out.below b7)
          have U7 := Lib.hid (U6.out.below b7)
          have W7 := Lib.hid hv7
          clear hv7 b7 K
          simp only at W7 ⊢
          rcases TW2.out with h | h | ⟨h, hm⟩
          · subst h
            go_wp2_with fail
            go_ret
            exact ⟨rfl, B7.out⟩
          · subst h
            go_wp2_with fail
            go_ret
            exact ⟨rfl, B7.out⟩
          · subst h
            obtain ⟨ul, -⟩ := (PG3.out rfl).2
            have MK := ref_make ⟨6, ⟨#[]⟩, 0, 0⟩ _ _ _ (lists_pair V7.out U7.out) ⟨by simp, by simp; omega⟩
            unfold Nd.val at MK
            simp only at MK
            have MK := Lib.hid MK
            have HMM := Lib.hid hm
            clear hm
            go_wp2_with fail
            refine (show Calls _ _ _ _ _ from MK.out).mono ?_
            rintro e w8 ⟨v8, rfl, hv8, b8⟩
            have bl := lit_below w7 (.cells #[.slice q3 rn.length c3, .slice q5 sn.length c5] 25)
            have b78 := bl.trans (b8.mono (by simp))
            have B8 := Lib.hid (B7.out.trans (b78.mono B7.out.size))
            have SM := same_any _ _ un _ w8 (W7.out.below b78) hv8 (by omega)
            rw [show decide (un = makeN ⟨6, ⟨#[]⟩, 0, 0⟩ [rn, sn]) = true from decide_eq_true HMM.out] at SM
            have SM := Lib.hid SM
            clear hv8 b8 bl b78
            go_wp2_with fail
            refine (show Calls _ _ _ _ _ from SM.out).mono ?_
            rintro e w9 ⟨b', rfl, rfl, b9⟩
            have B9 := Lib.hid (B8.out.trans (b9.mono B8.out.size))
            clear b9
            go_wp2_with fail
            go_ret
            exact ⟨rfl, B9.out⟩
      · have n1 : (se == 0) = false := by rw [beq_eq_false_iff_ne]; exact hf
        have n2 : (se != 0) = true := by simp [bne, n1]
        clear hf
        go_wp2_with fail
        go_ret
        exact ⟨rfl, B5.out⟩
    · have n1 : (re == 0) = false := by rw [beq_eq_false_iff_ne]; exact he
      have n2 : (re != 0) = true := by simp [bne, n1]
      clear he
      go_wp2_with fail
      go_ret
      exact ⟨rfl, B5.out⟩
end Go.Proofs.YtggjckalmlploaaGreatDoor
/- What the arguments hold: a fixity by value, and slices of fixities, of texts and of numbers. -/
set_option maxRecDepth 100000
namespace Go.Proofs.YtggjckalmlploaaGreatDoor.Lx
open Go.ChangeShapes Go.WideShapes Go.RowKit Go.Deep Go.Joins Go.Proofs.FixMath
section
variable {H : Type} {enc : TypeId × Value → H} {w : World} {base : Nat} {spare : Nat → Bool} {held : Bool}
set_option maxRecDepth 100000 in
theorem open_fix {fuel : Nat} {cs : List Value} {x : DataW H × List MemPlace} (h : DataW.trod enc Tryz.prog w base spare held fuel 41 cs = some x) : ∃ nd : Fx, cs = nd.cells := by
  obtain ⟨xs, n, _, _, hl, hxl, hf⟩ := DataW.trod_struct Tryz.underlying41 h
  have h3 : Tryz.prog.cellsOf 41 = 3 := by kernel_rfl
  have c9 : Tryz.prog.cellsOf 9 = 1 := by kernel_rfl
  have c3 : Tryz.prog.cellsOf 3 = 1 := by kernel_rfl
  rw [h3] at hl
  match cs, hl, xs, hxl with
  | [v0, v1, v2], _, [y0, y1, y2], _ =>
    have e0 := hf 0 _ rfl
    have e1 := hf 1 _ rfl
    have e2 := hf 2 _ rfl
    try simp only [c9] at e0
    try simp only [c3] at e1
    try simp only [c3] at e2
    obtain ⟨a, ha, _⟩ := DataW.trod_string Tryz.underlying9 (show DataW.trod enc Tryz.prog w base spare held n 9 [v0] = some y0 from e0)
    obtain ⟨b, hb, _⟩ := DataW.trod_int Tryz.underlying3 (show DataW.trod enc Tryz.prog w base spare held n 3 [v1] = some y1 from e1)
    obtain ⟨c, hc, _⟩ := DataW.trod_int Tryz.underlying3 (show DataW.trod enc Tryz.prog w base spare held n 3 [v2] = some y2 from e2)
    simp only [List.cons.injEq, and_true] at ha hb hc
    subst ha hb hc
    exact ⟨⟨a, b, c⟩, rfl⟩
theorem open_fixes_cells {fuel : Nat} {cs : List Value} {x : DataW H × List MemPlace} (h : DataW.trod enc Tryz.prog w base spare held fuel 22 cs = some x) : ∃ v ns, cs = [v] ∧ FixAt w v ns := by
  have h3 : Tryz.prog.cellsOf 41 = 3 := by kernel_rfl
  rcases open_slice Tryz.underlying22 h with ⟨rfl, _⟩ | ⟨a, len, cap, m, n, D, Pl, rfl, hb, hl, hm, hmm, _, hi⟩
  · exact ⟨_, [], rfl, SliceAt.nil w 3⟩
  · have hlm : len ≤ m := by rw [hmm]; split <;> omega
    have hex : ∀ i, i < len → ∃ nd : Fx, ∀ j, j < 3 → w.cell? ((a.add (i * 3)).add j) = nd.cells[j]? := by
      intro i hil
      obtain ⟨cs', h1, h2⟩ := hi i (by omega)
      obtain ⟨nd, rfl⟩ := open_fix h2
      rw [h3] at h1
      exact ⟨nd, fun j hj => (World.cells?_some h1).2.2 j hj⟩
    obtain ⟨f, hf⟩ := choose_lt hex
    obtain ⟨ns, hns⟩ : ∃ ns, ns = (List.range len).map f := ⟨_, rfl⟩
    have hnl : ns.length = len := by simp [hns]
    have hget : ∀ i, i < len → ns.getD i default = f i := by
      intro i hil
      rw [hns, List.getD_eq_getElem?_getD]
      simp [hil]
    refine ⟨_, ns, rfl, length_fxCells ns, some a, cap, by rw [hnl], by omega, hm, fun h0 => ?_⟩
    have hp : 0 < len := by omega
    have hz := hf 0 hp 0 (by omega)
    obtain ⟨b, off, spot⟩ := a
    have hspot : spot = none := by
      have : w.cell? ⟨b, off, spot⟩ = some (.string (f 0).op) := by simpa [Addr.add, Fx.cells] using hz
      exact World.cell?_spot this
    subst hspot
    have hlt : b < w.heap.size := by
      have : w.cell? ⟨b, off, none⟩ = some (.string (f 0).op) := by simpa [Addr.add, Fx.cells] using hz
      unfold World.cell? at this
      rcases Nat.lt_or_ge b w.heap.size with h | h
      · exact h
      · simp [Array.getElem?_eq_none h] at this
    refine ⟨b, off, rfl, hlt, fun j u hj => ?_⟩
    have hjl : j < len * 3 := by
      have := (List.getElem?_eq_some_iff.1 hj).1
      rw [length_fxCells, hnl] at this
      exact this
    have hq : j / 3 < len := by omega
    have hdm : j / 3 * 3 + j % 3 = j := by omega
    have h1 := fxCells_get ns (j / 3) (by omega) (j % 3) (by omega)
    rw [hdm, hget _ hq, hj] at h1
    have h2 := hf (j / 3) hq (j % 3) (by omega)
    rw [← h1, Go.Deep.add_add, Go.WideShapes.add_plain, hdm] at h2
    exact h2
theorem open_fixes {v : Value} {d : DataW H} {p : List MemPlace} {a : Option Addr} {len cap : Nat} (hv : v = .slice a len cap) (h : DataW.Trod enc Tryz.prog w base spare held 22 v d p) : ∃ ns, FixAt w v ns := by
  obtain ⟨fuel, hf⟩ := h
  obtain ⟨v', ns, hc, hn⟩ := open_fixes_cells hf
  subst hv
  simp [Value.cells] at hc
  subst hc
  exact ⟨ns, hn⟩
end
end Go.Proofs.YtggjckalmlploaaGreatDoor.Lx
/- The laws' helpers: the library's table of blanks, out of the row's condition. -/
set_option maxRecDepth 100000
namespace Go.Proofs.YtggjckalmlploaaGreatDoor
open Go.ChangeShapes Go.WideShapes Go.ChangeAt Go.RowKit
def laid2 {H : Type} : List (String × DataW H) := [("unicode.White_Space", Rows.laid_unicode_White_Space), ("strings.asciiSpace", Rows.laid_strings_asciiSpace)]
theorem ownG : ownKnob Tryz.prog.godebug = none := by kernel_rfl
theorem laidOutG : laidOutB Tryz.prog = true := by kernel_rfl
theorem gAsc : Tryz.prog.globalNamed "strings.asciiSpace" = some 1 := by kernel_rfl
theorem door_met (os : Os) (args : Array Value) : laidMetH Tryz.prog laid2 ((World.doorLaid Tryz.prog 400 os).forCall (fun _ _ => 0) ⟨#[], args, []⟩).memory :=
  laidMetH_of_parts3 (fuel := 8) (laidMet_of_run' 8 (by kernel_rfl) (by kernel_rfl)) (by kernel_rfl) (by kernel_rfl)
def tabZs : List Int := (List.range 256).map fun c => if Lib.isSp (UInt8.ofNat c) then 1 else 0
theorem tab_data {H : Type} : (Rows.laid_strings_asciiSpace : DataW H) = Lib.tabData .u8 tabZs := by rfl
theorem tab_zs (c : Nat) (hc : c < 256) : (tabZs.map fun z => Value.int .u8 z)[c]? = some (.int .u8 (if Lib.isSp (UInt8.ofNat c) then 1 else 0)) := by
  unfold tabZs
  simp [hc]
theorem tab_of {W : World} (h : laidMetH Tryz.prog laid2 W) : Tab W := by
  rw [MakeChecks.laidMetH_plain _ _ _ (by kernel_rfl)] at h
  obtain ⟨ps, ⟨g0, t0, cs0, f0, p0, q0, hg0, ht0, hv0, hd0, ⟨g1, t1, cs1, f1, p1, q1, hg1, ht1, hv1, hd1, _, _⟩, _⟩, _, _⟩ := h
  obtain rfl := Option.some.inj (gAsc.symm.trans hg1)
  obtain rfl := Option.some.inj ((show (Tryz.prog.globals[1]?).map (·.type) = some 148 by kernel_rfl).symm.trans ht1)
  rw [tab_data] at hd1
  intro c hc
  have e := Lib.cells_of_tab (t := 148) (e := 5) (n := 256) Tryz.underlying148 Tryz.underlying5 (by kernel_rfl) (by kernel_rfl) hd1
  have := World.var?_cell hg1 hv1 c
  rw [this]
  have h2 := tab_zs c hc
  rw [← e] at h2
  simpa using h2
end Go.Proofs.YtggjckalmlploaaGreatDoor
