/- Texts of this seat, one behind the other: Kids, LaA, LaE, DaT. -/
import Derived.Test.YtncifeeinogcnaaDoorKn02
import Derived.Maps.AppendAt
import Derived.Test.YtncifeeinogcnaaDoorKn22
import Derived.Test.YtncifeeinogcnaaDoorKn08
import Derived.Test.YtncifeeinogcnaaDoorKn05
import Derived.Test.YtncifeeinogcnaaDoorKn04
import Derived.Deep.QuietTactic
import Derived.BigQuiet
import Derived.Deep.RegionHeld3
import Derived.Deep.AppendSrc
import Derived.Test.YtncifeeinogcnaaDoorKn23
import Derived.Test.YtncifeeinogcnaaDoorKn32
import Derived.Test.YtncifeeinogcnaaDoorKn15
import Derived.Test.YtncifeeinogcnaaDoorKn16
import Derived.Test.YtncifeeinogcnaaDoorKn03
import Derived.Test.YtncifeeinogcnaaDoorKn09
import Derived.Test.YtncifeeinogcnaaDoorKn20
import Derived.Test.YtncifeeinogcnaaDoorKn27
import Derived.Lib.QuietBelow
import Derived.Laws.EntriesVeiled
import Derived.RegionTactic
import Derived.Maps.OwnSet
import Derived.WalkArith
import Derived.Maps.Views
import Derived.Maps.Ext
import Derived.LaidEqlPtr
import Derived.Deep.CutBlock
import Derived.WalkSmall
import Derived.Deep.DeepCutAuto
import Derived.BigRegion
import Derived.Deep.RegionWith
import Derived.StillTailTactics
import Derived.Lib.Hide
import Derived.Outline
import Derived.LoopTactic
import Derived.Deep.LoopGhost
import Derived.RangeFuncWrites
import Derived.RangeFuncBox
import Derived.RangeFuncLeaves
import Derived.RangeFuncNested
import Derived.RangeFuncBound
import Derived.RangeFuncCalls
import Derived.Shelf.Abstract
import Derived.WalkKit
import Derived.OwnWalkIn
import Derived.TacticsInMore
import Derived.LoopNIn
import Derived.LoopIn
import Derived.Maps.OwnIn
import Derived.Test.YtncifeeinogcnaaDoorKn30
/- tree.Kids: the search with the function that gathers the kids. -/
namespace Go.Proofs.YtncifeeinogcnaaDoor
open Go.RowKit Go.Proofs.TreeMath
def ofNats (xs : List Nat) : List Int := xs.map Int.ofNat
/-- What stands while the kids of the node at t are gathered: W the world at the call; the block of the list at H, of the index at H + 1, of the kids at H + 2. -/
structure KMem (W : World) (b off n c t : Nat) (outs : List Nat) (w : World) : Prop where
  below : Below W.heap.size W w
  blkB : w.heap[W.heap.size]? = some (.cells #[.slice (some ⟨b, off, none⟩) n c] 36 (0, 0))
  blkA : w.heap[W.heap.size + 1]? = some (.cells #[.int .i64 t] 3 (0, 0))
  kids : ∃ p cap, w.heap[W.heap.size + 1 + 1]? = some (.cells #[.slice p outs.length cap] 53 (0, 0)) ∧ w.ownsRow (W.heap.size + 3) 3 1 (.slice p outs.length cap) outs.length (intCells (ofNats outs))
  size : W.heap.size + 3 ≤ w.heap.size
theorem KMem.drew {W : World} {b off n c t : Nat} {outs : List Nat} {w : World} (h : KMem W b off n c t outs w) : KMem W b off n c t outs w.drew := by
  obtain ⟨h1, h2, h3, h4, h5⟩ := h
  exact ⟨h1.drew, h2, h3, h4, h5⟩
end Go.Proofs.YtncifeeinogcnaaDoor
/- The law's own functions: Few, variable, fun. -/
set_option maxRecDepth 100000
namespace Go.Proofs.YtncifeeinogcnaaDoor
open Go.RowKit Go.Lib Go.Maps Go.Proofs.TreeMath

/-- Nodes that are not too many, of texts that are not too long. -/
def fewB (t : List Nd) : Bool := (t.take 61).all (fun n => decide (n.text.size ≤ 60)) && decide (t.length ≤ 60)
theorem fewB_small {t : List Nd} (h : fewB t = true) : t.length ≤ 60 ∧ SmallN t := by
  unfold fewB at h
  simp only [Bool.and_eq_true, decide_eq_true_eq] at h
  refine ⟨h.2, fun f hf => ?_⟩
  have h1 := List.all_eq_true.1 h.1 f (by rw [List.take_of_length_le (by omega)]; exact hf)
  simp only [decide_eq_true_eq] at h1
  omega
set_option maxHeartbeats 1000000 in
theorem few_any (tv : Value) (t : List Nd) (w : World) (hns : NodesAt w tv t) : Calls Tryd.prog 13 #[tv] w fun e w' => e = .returned (.bool (fewB t)) ∧ w = w' := by
  obtain ⟨g1, q, c, rfl, g2, g3, g4⟩ := hns
  have CELL := Lib.hid g4
  have hmx : t.length ≤ 9223372036854775807 := by unfold maxLen at g3; omega
  have NO : Hid (∀ j, j < 61 → j < t.length → decide (60 < (t.getD j default).text.size) = true → fewB t = false) := Lib.hid fun j h61 hj h => by
    unfold fewB
    rw [show (t.take 61).all (fun n => decide (n.text.size ≤ 60)) = false from ?_, Bool.false_and]
    rw [List.all_eq_false]
    refine ⟨t.getD j default, ?_, by simp only [decide_eq_true_eq] at h ⊢; omega⟩
    rw [List.getD_eq_getElem?_getD, List.getElem?_eq_getElem hj, List.mem_take_iff_getElem]
    exact ⟨j, by omega, rfl⟩
  obtain ⟨l, hlen⟩ : ∃ l, l = t.length := ⟨_, rfl⟩
  have HL := Lib.hid hlen
  rw [← hlen] at NO hmx ⊢
  clear g1 g2 g3 g4 hlen
  go_enter Tryd.func13, Tryd.ntmps13
  go_wp2
  go_loop [3] (fun i => ∃ j : Nat, j ≤ l ∧ j ≤ 61 ∧ i = .int .i64 j ∧ Hid ((t.take j).all (fun n => decide (n.text.size ≤ 60)) = true)) (fun i => l - (intOf i).toNat)
  case atStart => exact ⟨0, Nat.zero_le _, by omega, rfl, Lib.hid rfl⟩
  case round =>
    obtain ⟨j, hj, h61, rfl, hn⟩ := hrel
    by_cases h60 : j < 61
    · by_cases hlt : j < l
      · obtain ⟨b, o, rfl, gb, gc⟩ := CELL.out (by rw [← HL.out]; omega)
        obtain ⟨n, hnn⟩ : ∃ n, n = t.getD j default := ⟨_, rfl⟩
        obtain ⟨_, a1, _, _⟩ := CellsIn.node gc j (by rw [← HL.out]; exact hlt)
        rw [← hnn] at a1
        have NOJ := Lib.hid (NO.out j h60 hlt)
        rw [← hnn] at NOJ
        have HNN := Lib.hid hnn
        have hd : ∀ b, decide (60 < n.text.size) = b → decide ((60 : Int) < (n.text.size : Int)) = b := fun b e => by rw [← e]; exact decide_eq_decide.2 (by omega)
        clear gb gc hnn
        cases hb : decide (60 < n.text.size) with
        | true =>
          have t1 := hd true hb
          have N := Lib.hid (NOJ.out hb)
          clear NOJ hd hb hn
          go_wp2
          go_ret
          exact ⟨by rw [N.out]; rfl, rfl⟩
        | false =>
          have t1 := hd false hb
          have Y : Hid ((t.take (j + 1)).all (fun n => decide (n.text.size ≤ 60)) = true) := Lib.hid (all_take _ t j (by rw [← HL.out]; exact hlt) hn.out (by rw [← HNN.out]; simp only [decide_eq_true_eq, decide_eq_false_iff_not] at hb ⊢; omega))
          clear NOJ hd hb hn
          go_wp2
          go_round
          case rel => exact ⟨j + 1, by omega, by omega, by go_num, Y⟩
          case measure => simp [intOf]; omega
      · obtain rfl : j = l := by omega
        have F : Hid (fewB t = decide ((j : Int) ≤ 60)) := Lib.hid (by
          unfold fewB
          rw [List.take_of_length_le (by rw [← HL.out]; omega)]
          have := hn.out
          rw [List.take_of_length_le (by rw [← HL.out]; omega)] at this
          rw [this, Bool.true_and, ← HL.out]
          exact decide_eq_decide.2 (by omega))
        have t0 : decide ((j : Int) < (j : Int)) = false := by simp
        clear hn hlt
        go_wp2
        go_ret
        exact ⟨by rw [F.out]; rfl, rfl⟩
    · obtain rfl : j = 61 := by omega
      by_cases hlt : 61 < l
      · have F : Hid (fewB t = false) := Lib.hid (by
          unfold fewB
          rw [decide_eq_false (by rw [← HL.out]; omega), Bool.and_false])
        have t2 : decide ((l : Int) ≤ 60) = false := by simp; omega
        clear hn
        go_wp2
        go_ret
        exact ⟨by rw [F.out]; rfl, rfl⟩
      · obtain rfl : l = 61 := by omega
        have F : Hid (fewB t = false) := Lib.hid (by
          unfold fewB
          rw [decide_eq_false (by rw [← HL.out]; omega), Bool.and_false])
        clear hn hlt
        go_wp2
        go_ret
        exact ⟨by rw [F.out]; rfl, rfl⟩
end Go.Proofs.YtncifeeinogcnaaDoor
/- The chapter's example. -/
set_option maxRecDepth 100000
namespace Go.Proofs.YtncifeeinogcnaaDoor
open Go.RowKit Go.Lib Go.Maps Go.Proofs.TreeMath

theorem small_of {l : List Nd} (h : (l.all fun f => decide (f.text.size ≤ 100000000)) = true) : SmallN l := fun f hf => by
  have := List.all_eq_true.1 h f hf
  simpa using this
theorem ex_same (u v : Value) (l : List Nd) (w : World) (h : NodesAt w u l) (k : NodesAt w v l) (hl : l.length ≤ 1000000) : Calls Tryd.prog 17 #[u, v] w fun e w' => e = .returned (.bool true) ∧ Below w.heap.size w w' := by
  refine (same_any u v l l w h k hl).mono ?_
  rintro e w' ⟨_, rfl, rfl, b⟩
  exact ⟨by rw [decide_eq_true rfl], b⟩
end Go.Proofs.YtncifeeinogcnaaDoor
/- The parts of what was made of parts; the chapter's example. -/
set_option maxRecDepth 100000
namespace Go.Proofs.YtncifeeinogcnaaDoor
open Go.Shelf Go.RowKit Go.Lib Go.Sort Go.Maps Go.Proofs.TreeMath Go.Proofs.LexMath

theorem Pt.inv {t : T} {L : List T} {r : T} (h : Pt t L r) : (t.1.text ≠ sArrow ∧ L = [] ∧ r = t) ∨ (∃ n a b L', t = (n, .cons a.1 a.2 (.cons b.1 b.2 .nil)) ∧ L = a :: L' ∧ Pt b L' r) := by
  cases h with
  | fin _ h => exact .inl ⟨h, rfl, rfl⟩
  | arr n a b L' r' ha hp => exact .inr ⟨n, a, b, L', rfl, rfl, hp⟩
theorem first_tree (t : T) (h1 : t.2.ok) (h2 : t.1.kids = t.2.cnt) (R : List Int) : scan (kk (flatT t) ++ R) 1 = some (szT t) := by
  have := scan_flat (.cons t.1 t.2 .nil) ⟨h2, h1, trivial⟩ R
  simpa [F.cnt, F.sz, flatT, szT] using this
theorem first_same (a : T) (h1 : a.2.ok) (h2 : a.1.kids = a.2.cnt) (L x y : List Nd) (hw : tyB L = true) (e : flatT a ++ x = L ++ y) : flatT a = L ∧ x = y := by
  obtain ⟨b, hb, rfl, _⟩ := type_tree hw
  have e1 := first_tree a h1 h2 (kk x)
  have e2 := first_tree b hb.1 hb.2.1 (kk y)
  rw [← kk_append, e] at e1
  rw [← kk_append] at e2
  rw [e1] at e2
  simp only [Option.some.injEq] at e2
  exact List.append_inj e (by rw [flatT_length, flatT_length, e2])
/-- The parts of an arrow are what it was made of. -/
theorem pt_arr (tl : List Nd) (htl : (tl.getD 0 default).text ≠ sArrow) : ∀ (Ls : List (List Nd)) (t : T) (L : List T) (r : T), (∀ l ∈ Ls, tyB l = true) → GT t → flatT t = arrN Ls tl → Pt t L r → L.map flatT = Ls ∧ flatT r = tl := by
  intro Ls
  induction Ls with
  | nil =>
    intro t L r _ _ ht hp
    have e : flatT t = tl := by rw [ht]; simp [arrN, arrL]
    cases hp with
    | fin _ _ => exact ⟨rfl, e⟩
    | arr n a b L r ha _ =>
      rw [← e, flatT_eq] at htl
      exact absurd ha htl
  | cons L0 Ls ih =>
    intro t L r hl hg ht hp
    have e : flatT t = [arrH] ++ (L0 ++ arrN Ls tl) := by rw [ht]; simp [arrN, arrL]
    have e1 : t.1 = arrH := by
      rw [flatT_eq] at e
      simp only [List.cons_append, List.nil_append, List.cons.injEq] at e
      exact e.1
    obtain ⟨a, b, et, ga, gb, ef, _⟩ := arrow_two hg (by rw [e1]; rfl)
    rw [ef, e1] at e
    have e2 : flatT a ++ flatT b = L0 ++ arrN Ls tl := by simpa using e
    obtain ⟨e3, e4⟩ := first_same a ga.1 ga.2.1 L0 _ _ (hl L0 (List.mem_cons_self ..)) e2
    rw [et] at hp
    rcases hp.inv with ⟨h, _, _⟩ | ⟨n, a', b', L', e5, rfl, hp'⟩
    · exact absurd (by rw [e1]; rfl) h
    · simp only [Prod.mk.injEq, F.cons.injEq, and_true] at e5
      obtain ⟨_, h1, h2, h3, h4⟩ := e5
      obtain rfl : a = a' := Prod.ext h1 h2
      obtain rfl : b = b' := Prod.ext h3 h4
      obtain ⟨i1, i2⟩ := ih b L' r (fun l hl' => hl l (List.mem_cons_of_mem _ hl')) gb e4 hp'
      exact ⟨by rw [List.map_cons, e3, i1], i2⟩
def lN : Nd := ⟨32, sLst, 0, 1⟩
def tyX : List Nd := [arrH, vN 0, arrH, lN, vN 0, lN, vN 0]
def argX : List (List Nd) := [[vN 0], [lN, vN 0]]
theorem sigX (a b c : Value) : sigL (pairsOf (lstD a b c)) = [(sNil, [lN, vN 0]), (sCns, tyX)] := by kernel_rfl
theorem findX (a b c : Value) : findC (lstD a b c) sCns = some (0, 1) := by kernel_rfl
theorem famX (a b c : Value) : (famC (lstD a b c) sNil).length = 2 := by kernel_rfl
theorem lst_len (a b c : Value) : (lstD a b c).length ≤ 1000000 := by simp [lstD]
theorem lst_cons (a b c : Value) : ∀ d ∈ lstD a b c, d.cons.length ≤ 1000000 := fun d hd => (lst_tiny a b c d hd).2.1
theorem ex_sigs (v a b c : Value) (w : World) (h : DtsAt w v (lstD a b c)) : Calls Tryd.prog 18 #[v] w fun e w' => ∃ bl off cc q k, e = .returned (.tuple #[.slice (some ⟨bl, off, none⟩) 2 cc, .int .i64 0]) ∧ bl < w'.heap.size ∧ w'.cell? ⟨bl, off + 2 + 1, none⟩ = some (.slice q 7 k) ∧ NodesAt w' (.slice q 7 k) tyX ∧ Below w.heap.size w w' := by
  refine (dsigs_any v _ w h (lst_len a b c) (lst_tiny a b c)).mono ?_
  rintro e w' ⟨v', k, rfl, hk, hb, hx⟩
  rw [lst_check] at hk
  subst hk
  rcases hx with ⟨h0, _⟩ | ⟨_, sl, ⟨hs, hp⟩, hm⟩
  · exact absurd rfl h0
  · rw [sigX] at hm
    rcases sl with _ | ⟨s1, _ | ⟨s2, _ | ⟨s3, sl⟩⟩⟩
    · simp at hm
    · simp at hm
    · simp only [List.map_cons, List.map_nil, List.cons.injEq, Prod.mk.injEq, and_true] at hm
      obtain ⟨_, _, e2⟩ := hm
      obtain ⟨_, p, cc, rfl, _, _, hc⟩ := hs
      obtain ⟨bl, off, rfl, hbl, hcc⟩ := hc (by simp)
      have n2 := hp s2 (by simp)
      rw [e2] at n2
      obtain ⟨q, k, ev⟩ := nodes_form' n2
      have c3 := hcc 3 s2.v (by simp [Sg.cells])
      rw [ev] at c3 n2
      exact ⟨bl, off, cc, q, k, rfl, hbl, c3, n2, hb⟩
    · simp at hm
theorem ex_find (v a b c : Value) (w : World) (h : DtsAt w v (lstD a b c)) : Calls Tryd.prog 9 #[v, .string ⟨#[67, 111, 110, 115]⟩] w fun e w' => e = .returned (.tuple #[.int .i64 0, .int .i64 1, .bool true]) ∧ Below w.heap.size w w' := by
  have := find_any v _ sCns w h (lst_len a b c) (lst_cons a b c)
  unfold FdP at this
  rw [findX] at this
  exact this
theorem ex_fam (v a b c : Value) (w : World) (h : DtsAt w v (lstD a b c)) : Calls Tryd.prog 11 #[v, .string ⟨#[78, 105, 108]⟩] w fun e w' => ∃ q k, e = .returned (.slice q 2 k) ∧ Below w.heap.size w w' := by
  refine (fam_any v _ sNil w h (lst_len a b c) (lst_cons a b c)).mono ?_
  rintro e w' ⟨v', rfl, hc, hb⟩
  obtain ⟨q, k, ev⟩ := hc.form
  rw [famX] at ev
  exact ⟨q, k, by rw [ev], hb⟩
theorem ex_dcheck (v a b c : Value) (w : World) (h : DtsAt w v (lstD a b c)) : Calls Tryd.prog 20 #[v] w fun e w' => e = .returned (.int .i64 0) ∧ Below w.heap.size w w' := by
  have := dcheck_any v _ w h (lst_len a b c) (lst_tiny a b c)
  unfold CdP at this
  rw [lst_check] at this
  exact this
theorem ex_parts (v : Value) (w : World) (h : NodesAt w v tyX) : Calls Tryd.prog 15 #[v] w fun e w' => ∃ q k q2 k2, e = .returned (.tuple #[.slice q 2 k, .slice q2 2 k2]) ∧ ListsAt w' (.slice q 2 k) argX ∧ NodesAt w' (.slice q2 2 k2) [lN, vN 0] ∧ Below w.heap.size w w' := by
  refine (parts_any v tyX w h (by decide) (small_of (by decide))).mono ?_
  rintro e w' ⟨v1, v2, rfl, hb, hx⟩
  rcases hx with ⟨ht, _, _⟩ | ⟨t, L, r, hg, hf, hp, h1, h2⟩
  · rw [show tyB tyX = true by decide +kernel] at ht; exact absurd ht (by decide)
  · obtain ⟨e1, e2⟩ := pt_arr [lN, vN 0] (by decide) argX t L r (fun l hl => by
      simp only [argX, List.mem_cons, List.not_mem_nil, or_false] at hl
      rcases hl with rfl | rfl
      · decide +kernel
      · decide +kernel) hg hf hp
    rw [e1] at h1
    rw [e2] at h2
    obtain ⟨q, k, rfl⟩ := h1.form
    obtain ⟨q2, k2, rfl⟩ := nodes_form' h2
    exact ⟨q, k, q2, k2, rfl, h1, h2, hb⟩
theorem ex_arrow (v v2 : Value) (w : World) (h : ListsAt w v argX) (h2 : NodesAt w v2 [lN, vN 0]) : Calls Tryd.prog 16 #[v, v2] w fun e w' => ∃ q k, e = .returned (.slice q 7 k) ∧ NodesAt w' (.slice q 7 k) tyX ∧ Below w.heap.size w w' := by
  refine (arrow_any v v2 argX [lN, vN 0] w h h2 (by decide)).mono ?_
  rintro e w' ⟨v', rfl, hr, hb⟩
  have n : NodesAt w' v' tyX := SliceAt.of_owns hr
  obtain ⟨q, k, rfl⟩ := nodes_form' n
  exact ⟨q, k, rfl, n, hb⟩
def txX : ByteArray := ⟨#[39, 48, 32, 45, 62, 32, 76, 105, 115, 116, 32, 39, 48, 32, 45, 62, 32, 76, 105, 115, 116, 32, 39, 48]⟩
theorem showY : shN arrH (shF (.cons (vN 0) .nil (.cons arrH (.cons lN (.cons (vN 0) .nil .nil) (.cons lN (.cons (vN 0) .nil .nil) .nil)) .nil))) = [39, 48, 32, 45, 62, 32, 76, 105, 115, 116, 32, 39, 48, 32, 45, 62, 32, 76, 105, 115, 116, 32, 39, 48] := by decide +kernel
theorem ex_show7 (v : Value) (w : World) (h : NodesAt w v tyX) (htab : TabW w) : Calls Tryd.prog 22 #[v] w fun e w' => e = .returned (.tuple #[.string txX, .int .i64 0]) ∧ Below w.heap.size w w' := by
  have := show_good v arrH (.cons (vN 0) .nil (.cons arrH (.cons lN (.cons (vN 0) .nil .nil) (.cons lN (.cons (vN 0) .nil .nil) .nil)) .nil)) w h (small_of (by decide)) (by decide +kernel) (okT_of _ ⟨rfl, ⟨rfl, trivial, rfl, ⟨rfl, ⟨rfl, trivial, trivial⟩, rfl, ⟨rfl, trivial, trivial⟩, trivial⟩, trivial⟩, trivial⟩ (by decide +kernel) (by decide)) htab
  unfold ShP at this
  rw [showY] at this
  exact this
end Go.Proofs.YtncifeeinogcnaaDoor
