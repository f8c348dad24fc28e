/- Texts of this seat, one behind the other: KidsFn, Kids, DeepFn, Deep. -/
import Derived.Test.YtggjckalmlploaaGreatDoorKn02
import Derived.Maps.AppendAt
import Derived.Deep.LoopGhost
/- The indexes of the kids: tree.Kids. -/
namespace Go.Proofs.YtggjckalmlploaaGreatDoor
open Go.RowKit Go.Proofs.TreeMath
theorem info_of {P : Program} {t : TypeId} {z : Value} {s b : Nat} (h : (P.info? t).map (fun i => (i.zero, i.size, i.bytes)) = some (some z, s, b)) : ∃ i, P.info? t = some i ∧ i.zero = some z ∧ i.size = s ∧ i.bytes = b := by
  cases hq : P.info? t with
  | none => rw [hq] at h; simp at h
  | some i => rw [hq] at h; simp at h; exact ⟨i, rfl, h.1, h.2.1, h.2.2⟩
theorem infoInt : ∃ i, Tryz.prog.info? 3 = some i ∧ i.zero = some (.int .i64 0) ∧ i.size = 1 ∧ i.bytes = 8 := info_of (by kernel_rfl)
theorem owns_slice {w : World} {base : Nat} {e : TypeId} {size n : Nat} {v : Value} {xs : List Value} (h : w.ownsRow base e size v n xs) (hn : 0 < n) : ∃ g cap, v = .slice (some ⟨g, 0, none⟩) n cap ∧ base ≤ g ∧ g < w.heap.size := by
  rcases h.2 with ⟨_, h0⟩ | ⟨g, cap, cur, rfl, hb, hg, _⟩
  · omega
  · exact ⟨g, cap, rfl, hb, (Array.getElem?_eq_some_iff.1 hg).1⟩
end Go.Proofs.YtggjckalmlploaaGreatDoor
/- tree.Kids: the search with the function that gathers the kids. -/
namespace Go.Proofs.YtggjckalmlploaaGreatDoor
open Go.RowKit Go.Proofs.TreeMath
def ofNats (xs : List Nat) : List Int := xs.map Int.ofNat
/-- What stands while the kids of the node at t are gathered: W the world at the call; the block of the list at H, of the index at H + 1, of the kids at H + 2. -/
structure KMem (W : World) (b off n c t : Nat) (outs : List Nat) (w : World) : Prop where
  below : Below W.heap.size W w
  blkB : w.heap[W.heap.size]? = some (.cells #[.slice (some ⟨b, off, none⟩) n c] 25 (0, 0))
  blkA : w.heap[W.heap.size + 1]? = some (.cells #[.int .i64 t] 3 (0, 0))
  kids : ∃ p cap, w.heap[W.heap.size + 1 + 1]? = some (.cells #[.slice p outs.length cap] 91 (0, 0)) ∧ w.ownsRow (W.heap.size + 3) 3 1 (.slice p outs.length cap) outs.length (intCells (ofNats outs))
  size : W.heap.size + 3 ≤ w.heap.size
theorem KMem.drew {W : World} {b off n c t : Nat} {outs : List Nat} {w : World} (h : KMem W b off n c t outs w) : KMem W b off n c t outs w.drew := by
  obtain ⟨h1, h2, h3, h4, h5⟩ := h
  exact ⟨h1.drew, h2, h3, h4, h5⟩
theorem alloc_at (w : World) (o : Obj) : (w.alloc o).heap[w.heap.size]? = some o := by
  show (w.heap.push o)[w.heap.size]? = some o
  simp
theorem alloc_at' (w : World) (o : Obj) (k : Nat) (h : k = w.heap.size) : (w.alloc o).heap[k]? = some o := by
  subst h
  exact alloc_at w o
end Go.Proofs.YtggjckalmlploaaGreatDoor
/- tree.Deep: the function that goes along the path. -/
namespace Go.Proofs.YtggjckalmlploaaGreatDoor
open Go.RowKit Go.Proofs.TreeMath
def pathCells (P : List Nat) : List Value := intCells (ofNats P.reverse)
theorem pathCells_cons (x : Nat) (P : List Nat) : pathCells (x :: P) = pathCells P ++ [.int .i64 x] := by simp [pathCells, intCells, ofNats]
theorem length_pathCells (P : List Nat) : (pathCells P).length = P.length := by simp [pathCells, intCells, ofNats]
/-- The path's and the depth's memory. -/
structure DMem (C D base : Nat) (P : List Nat) (d : Int) (w : World) : Prop where
  path : ∃ p n cap, n = P.length ∧ w.heap[C]? = some (.cells #[.slice p n cap] 91 (0, 0)) ∧ w.ownsRow base 3 1 (.slice p n cap) n (pathCells P)
  deep : w.heap[D]? = some (.cells #[.int .i64 d] 3 (0, 0))
  size : base ≤ w.heap.size
def DRet (C D base lo : Nat) (P : List Nat) (d : Int) (w : World) (b : Bool) (e : Ending) (w' : World) : Prop := e = .returned (.bool b) ∧ DMem C D base P d w' ∧ Below lo w w'
theorem deep_found (i : Int) (C D : Nat) (w : World) :
    Calls Tryz.prog 57 #[.int .i64 i, .int .i64 0, .pointer (some ⟨C, 0, none⟩), .pointer (some ⟨D, 0, none⟩)] w fun e w' => e = .returned (.bool true) ∧ w = w' := by
  go_enter Tryz.func57, Tryz.ntmps57
  go_wp2
  go_ret
  exact ⟨rfl, rfl⟩
theorem owns_cut {w : World} {base : Nat} {g cap m : Nat} {x : Nat} {Q : List Nat} (hQ : m = Q.length) (h : w.ownsRow base 3 1 (.slice (some ⟨g, 0, none⟩) (m + 1) cap) (m + 1) (pathCells (x :: Q))) :
    w.ownsRow base 3 1 (.slice (some ⟨g, 0, none⟩) m cap) m (pathCells Q) ∧ w.cell? ⟨g, m, none⟩ = some (.int .i64 x) ∧ m < cap ∧ cap ≤ maxLen := by
  subst hQ
  obtain ⟨h1, ⟨h2, _⟩ | ⟨g2, cap2, cur, hv, hb, hg, hn, hm, hs, ht⟩⟩ := h
  · simp at h2
  · simp only [Value.slice.injEq, Option.some.injEq, Addr.mk.injEq, true_and] at hv
    obtain ⟨⟨rfl, _⟩, rfl⟩ := hv
    refine ⟨⟨by rw [length_pathCells]; omega, .inr ⟨g, cap, cur, rfl, hb, hg, by omega, hm, hs, ?_⟩⟩, ?_, by omega, hm⟩
    · have := congrArg (List.take Q.length) ht
      rw [List.take_take, pathCells_cons, List.take_left' (length_pathCells Q)] at this
      rw [← this]
      congr 1
      omega
    · have h3 : (cur.toList.take ((Q.length + 1) * 1))[Q.length]? = some (.int .i64 x) := by
        rw [ht, pathCells_cons, List.getElem?_append_right (by rw [length_pathCells]; omega), length_pathCells]
        simp
      have h4 := take_get h3
      simp [World.cell?, hg]
      simpa using h4
theorem grown_same {w w3 : World} {x y : Obj} {base C n : Nat} {v : Value} {xs : List Value} (h : w.heap[C]? = some x) (hg : (w.alloc y).grownBy w3 v.ownBlock) (ho : w.ownsRow base 3 1 v n xs) (hC : C < base) (hs : base ≤ w.heap.size) : w3.heap[C]? = some x := by
  rw [hg.block C (by simp; omega) (by intro hh; have := (ho.lt C hh.symm).1; omega), Below.heap_alloc _ _ C (by omega)]
  exact h
theorem deep_end {C D base lo n c3 g3 on : Nat} {d y o : Int} {P Q : List Nat} {w w3 wr : World} {vv : Value} (hne : D ≠ C) (hCb : C < base) (hDb : D < base) (hlo : lo ≤ C) (hlo2 : lo ≤ D) (_hlob : lo ≤ base) (hbel : Below lo w wr) (hsz : base ≤ wr.heap.size)
    (hC3 : w3.heap[C]? = some (.cells #[vv] 91 (0, 0))) (hD3 : w3.heap[D]? = some (.cells #[.int .i64 d] 3 (0, 0))) (ho : o = (on : Int)) (hown : w3.ownsRow base 3 1 (.slice (some ⟨g3, 0, none⟩) n c3) n (pathCells Q ++ [.int .i64 o])) {x : Obj} {v0 : Value} {n0 : Nat} {xs0 : List Value} (hg : (wr.alloc x).grownBy w3 v0.ownBlock) (how : wr.ownsRow base 3 1 v0 n0 xs0)
    (hQ : trim on P = Q) (hn : n = Q.length + 1) (hy : y = max d (n : Int)) :
    DRet C D base lo (on :: trim on P) (max d ((trim on P).length + 1 : Nat)) w false (.returned (.bool false)) ((w3.setCell ⟨C, 0, none⟩ (.slice (some ⟨g3, 0, none⟩) n c3)).setCell ⟨D, 0, none⟩ (.int .i64 y)) := by
  subst ho hQ hy hn
  have hb3 : Below lo wr w3 := ((Below.refl _ _).alloc (by omega) _).grown hg (by simp; omega) fun k hk => by have := (how.lt k hk).1; omega
  refine ⟨rfl, ⟨⟨some ⟨g3, 0, none⟩, (trim on P).length + 1, c3, rfl, ?_, ?_⟩, ?_, ?_⟩, ?_⟩
  · exact (Below.heap_setCell _ _ _ _ (Ne.symm hne)).trans (one_setCell hC3)
  · rw [pathCells_cons]
    exact ownsRow_setCell_below (ownsRow_setCell_below hown (show C < base from hCb) _) (show D < base from hDb) _
  · have := one_setCell (u := .int .i64 (max d ((trim on P).length + 1 : Nat))) ((Below.heap_setCell w3 ⟨C, 0, none⟩ (.slice (some ⟨g3, 0, none⟩) ((trim on P).length + 1) c3) D hne).trans hD3)
    exact this
  · have := hg.size
    simp at this ⊢
    omega
  · exact ((hbel.trans hb3).setCell (show lo ≤ C from hlo) _).setCell (show lo ≤ D from hlo2) _
theorem trim_stop (on x : Nat) (Q : List Nat) (h : ¬ on < x) : trim on (x :: Q) = x :: Q := by
  unfold trim
  simp [h]
theorem trim_pop (on x : Nat) (Q : List Nat) (h : on < x) : trim on (x :: Q) = trim on Q := by
  unfold trim
  simp [h]
set_option maxHeartbeats 2000000 in
theorem deep_step (i o d : Int) (on : Nat) (C D base lo : Nat) (P : List Nat) (w : World) (hM : DMem C D base P d w) (hCb : C < base) (hDb : D < base) (hne : D ≠ C) (hlo : lo ≤ C) (hlo2 : lo ≤ D) (hlob : lo ≤ base) (ho : Hid (o = (on : Int))) (ho0 : 0 < o) (hob : o ≤ 1000000) (hP : P.length ≤ 1000000) (hd0 : 0 ≤ d) (hd1 : d ≤ 1000000) :
    Calls Tryz.prog 57 #[.int .i64 i, .int .i64 o, .pointer (some ⟨C, 0, none⟩), .pointer (some ⟨D, 0, none⟩)] w (DRet C D base lo (on :: trim on P) (max d ((trim on P).length + 1 : Nat)) w false) := by
  have ht : (o == 0) = false := beq_eq_false_iff_ne.2 (by omega)
  obtain ⟨i0, hi, hz0, hz1, hz2⟩ := infoInt
  have HI := Lib.hid (And.intro hi (And.intro hz0 (And.intro hz1 hz2)))
  clear hi hz0 hz1 hz2
  go_enter Tryz.func57, Tryz.ntmps57
  go_wp2
  go_loopg [] P.length (fun gk wr => ∃ Q : List Nat, gk = Q.length ∧ Q.length ≤ P.length ∧ trim on Q = trim on P ∧ DMem C D base Q d wr ∧ Below lo w wr)
  case atStart => exact ⟨P, rfl, Nat.le_refl _, rfl, hM, Below.refl _ _⟩
  case round =>
    obtain ⟨Q, rfl, hQl, hQ, ⟨⟨p, n, cap, hn, hC, hown⟩, hD, hsz⟩, hbel⟩ := hrel
    have cC := cell_of_one hC
    have fC := free_of_one hC
    have cD := cell_of_one hD
    have HQ := Lib.hid hQ
    have HD := Lib.hid hD
    cases Q with
    | nil =>
      obtain rfl : n = 0 := hn
      have HC := Lib.hid hC
      have HO := Lib.hid hown
      clear hC hD hown hQ
      go_wp2_with ((at_builtin; refine wpList_append_own _ rfl _ _ 91 rfl base 3 i0 (.int .i64 0) 1 8 Tryz.underlying91 HI.out.1 HI.out.2.1 HI.out.2.2.1 HI.out.2.2.2 rfl (by decide) (.slice p 0 cap) 0 (pathCells []) rfl (HO.out.alloc _) ⟨wr.heap.size, 0, none⟩ 1 1 [.int .i64 o] rfl rfl (cell_one_new _ _ _) (fun x hx => by simp at hx; subst hx; rfl) (by unfold maxLen; omega) (by omega) (by simp; omega) ?_; intro v' w3 hown' hgrow hnil; obtain ⟨g3, c3, hv3, hg3, hg4⟩ := owns_slice hown' (by omega); subst hv3; have hC3 : w3.heap[C]? = _ := grown_same HC.out hgrow HO.out hCb hsz; have hD3 : w3.heap[D]? = _ := grown_same HD.out hgrow HO.out hDb hsz; have c3' := cell_of_one hC3; have f3' := free_of_one hC3; have d3' := cell_of_one hD3; have e3' := free_of_one hD3; have d4 : (w3.setCell ⟨C, 0, none⟩ (.slice (some ⟨g3, 0, none⟩) (0 + 1) c3)).cell? ⟨D, 0, none⟩ = some (.int .i64 d) := cell_of_one ((Below.heap_setCell _ _ _ _ hne).trans hD3); have d5 : (w3.setCell ⟨C, 0, none⟩ (.slice (some ⟨g3, 0, none⟩) (0 + 1) c3)).frozen? ⟨D, 0, none⟩ = false := free_of_one ((Below.heap_setCell _ _ _ _ hne).trans hD3); have HC3 := Lib.hid hC3; have HD3 := Lib.hid hD3; have HO3 := Lib.hid hown'; have HG := Lib.hid hgrow; clear hC3 hD3 hown' hgrow hnil))
      all_goals go_ret
      · exact deep_end hne hCb hDb hlo hlo2 hlob hbel hsz HC3.out HD3.out ho.out HO3.out HG.out HO.out (Q := []) (by rw [← HQ.out]; rfl) rfl (by omega)
      · exact deep_end hne hCb hDb hlo hlo2 hlob hbel hsz HC3.out HD3.out ho.out HO3.out HG.out HO.out (Q := []) (by rw [← HQ.out]; rfl) rfl (by omega)
    | cons x Q =>
      obtain ⟨m, rfl⟩ : ∃ m, n = m + 1 := ⟨Q.length, hn⟩
      obtain ⟨g, cp, hv, hg, _⟩ := owns_slice hown (by omega)
      simp only [Value.slice.injEq] at hv
      obtain ⟨rfl, _, rfl⟩ := hv
      have hm : m = Q.length := by simpa using hn
      obtain ⟨hcut, hx, hlt, hcm⟩ := owns_cut hm hown
      have HU := Lib.hid hcut
      have HC := Lib.hid hC
      have HO := Lib.hid hown
      have HM := Lib.hid hm
      have hmP : m + 1 ≤ P.length := by simp at hQl; omega
      clear hC hD hown hQ hn hcut hm hQl
      unfold maxLen at hcm
      by_cases hxo : on < x
      · have t2 : decide (o < (x : Int)) = true := decide_eq_true (by have := ho.out; omega)
        go_wp2
        go_roundg Q.length
        case rel => exact ⟨Q, rfl, by have := HM.out; omega, by rw [← HQ.out, trim_pop on x Q hxo], ⟨⟨_, _, _, HM.out, one_setCell HC.out, ownsRow_setCell_below HU.out (show C < base from hCb) _⟩, (Below.heap_setCell _ _ _ _ hne).trans HD.out, by simpa using hsz⟩, hbel.setCell (show lo ≤ C from hlo) _⟩
        case measure => simp
      · have t2 : decide (o < (x : Int)) = false := decide_eq_false (by have := ho.out; omega)
        go_wp2_with ((at_builtin; refine wpList_append_own _ rfl _ _ 91 rfl base 3 i0 (.int .i64 0) 1 8 Tryz.underlying91 HI.out.1 HI.out.2.1 HI.out.2.2.1 HI.out.2.2.2 rfl (by decide) (.slice (some ⟨g, 0, none⟩) (m + 1) cap) (m + 1) (pathCells (x :: Q)) rfl (HO.out.alloc _) ⟨wr.heap.size, 0, none⟩ 1 1 [.int .i64 o] rfl rfl (cell_one_new _ _ _) (fun x hx => by simp at hx; subst hx; rfl) (by unfold maxLen; omega) (by omega) (by simp; omega) ?_; intro v' w3 hown' hgrow hnil; obtain ⟨g3, c3, hv3, hg3, hg4⟩ := owns_slice hown' (by omega); subst hv3; have hC3 : w3.heap[C]? = _ := grown_same HC.out hgrow HO.out hCb hsz; have hD3 : w3.heap[D]? = _ := grown_same HD.out hgrow HO.out hDb hsz; have c3' := cell_of_one hC3; have f3' := free_of_one hC3; have d3' := cell_of_one hD3; have e3' := free_of_one hD3; have d4 : (w3.setCell ⟨C, 0, none⟩ (.slice (some ⟨g3, 0, none⟩) ((m + 1) + 1) c3)).cell? ⟨D, 0, none⟩ = some (.int .i64 d) := cell_of_one ((Below.heap_setCell _ _ _ _ hne).trans hD3); have d5 : (w3.setCell ⟨C, 0, none⟩ (.slice (some ⟨g3, 0, none⟩) ((m + 1) + 1) c3)).frozen? ⟨D, 0, none⟩ = false := free_of_one ((Below.heap_setCell _ _ _ _ hne).trans hD3); have HC3 := Lib.hid hC3; have HD3 := Lib.hid hD3; have HO3 := Lib.hid hown'; have HG := Lib.hid hgrow; clear hC3 hD3 hown' hgrow hnil))
        all_goals go_ret
        · exact deep_end hne hCb hDb hlo hlo2 hlob hbel hsz HC3.out HD3.out ho.out HO3.out HG.out HO.out (Q := x :: Q) (by rw [← HQ.out, trim_stop on x Q hxo]) (by rw [List.length_cons, HM.out]) (by omega)
        · exact deep_end hne hCb hDb hlo hlo2 hlob hbel hsz HC3.out HD3.out ho.out HO3.out HG.out HO.out (Q := x :: Q) (by rw [← HQ.out, trim_stop on x Q hxo]) (by rw [List.length_cons, HM.out]) (by omega)
end Go.Proofs.YtggjckalmlploaaGreatDoor
/- tree.Deep. -/
namespace Go.Proofs.YtggjckalmlploaaGreatDoor
open Go.RowKit Go.Proofs.TreeMath
def DR (W : World) (ks : List Int) (m o : Nat) (w : World) : Prop :=
  ∃ (P : List Nat) (d : Nat), DMem (W.heap.size + 1) W.heap.size (W.heap.size + 2) P d w ∧ Below W.heap.size W w ∧ P.length ≤ m ∧ d ≤ m ∧ dl (ks.drop m) o P d = deepI ks
def DS (W : World) (ks : List Int) (m o : Nat) (w : World) : Prop :=
  ∃ (P : List Nat) (d : Nat), DMem (W.heap.size + 1) W.heap.size (W.heap.size + 2) P d w ∧ Below W.heap.size W w ∧ P.length ≤ m + 1 ∧ d ≤ m + 1 ∧ dl (ks.drop (m + 1)) (o - 1 + (ks.getD m 0).toNat) P d = deepI ks
def DF (W : World) (ks : List Int) (w : World) : Prop := Below W.heap.size W w ∧ w.heap[W.heap.size]? = some (.cells #[.int .i64 (deepI ks : Int)] 3 (0, 0))
theorem trim_len (o : Nat) (P : List Nat) : (trim o P).length ≤ P.length := (List.dropWhile_sublist _).length_le
theorem dr_next {W : World} {ks : List Int} {n : Nat} (hl : ks.length = n) (hn : n ≤ 1000000) (m o : Nat) (oi : Int) (w : World) (hm : m < n) (hom : o + 1 ≤ n - m) (hoi : oi = ((o + 1 : Nat) : Int)) (h : DR W ks m (o + 1) w) :
    Calls Tryz.prog 57 (#[.int .i64 m, .int .i64 oi] ++ #[.pointer (some ⟨W.heap.size + 1, 0, none⟩), .pointer (some ⟨W.heap.size, 0, none⟩)]) w fun e w' => e = .returned (.bool false) ∧ DS W ks m (o + 1) w' := by
  obtain ⟨P, d, hM, hb, hP, hd, he⟩ := h
  refine (deep_step m oi d (o + 1) (W.heap.size + 1) W.heap.size (W.heap.size + 2) W.heap.size P w hM (by omega) (by omega) (by omega) (by omega) (Nat.le_refl _) (by omega) hoi (by omega) (by omega) (by omega) (by omega) (by omega)).mono ?_
  rintro e w' ⟨rfl, hM', hb'⟩
  have ht := trim_len (o + 1) P
  refine ⟨rfl, (o + 1) :: trim (o + 1) P, max d ((trim (o + 1) P).length + 1), ?_, hb.trans hb', by simp; omega, by omega, ?_⟩
  · have e : ((max d ((trim (o + 1) P).length + 1) : Nat) : Int) = max (d : Int) ((trim (o + 1) P).length + 1 : Nat) := by omega
    rw [e]
    exact hM'
  · rw [← he, drop_get ks m (by omega), dl]
    simp
set_option maxHeartbeats 1000000 in
theorem search_deep (b off n c : Nat) (ks : List Int) (W w : World) (h1 : 0 < n) (hn : n ≤ 1000000) (hl : ks.length = n) (hb : b < W.heap.size) (hc : ∀ m, m < n → W.cell? ⟨b, off + m * 4 + 3, none⟩ = some (.int .i64 (ks.getD m 0))) (hW : wholeB ks = true) (h0 : DR W ks 0 1 w) :
    Calls Tryz.prog 56 #[.slice (some ⟨b, off, none⟩) n c, .int .i64 0, .func (.func 57) #[] #[.pointer (some ⟨W.heap.size + 1, 0, none⟩), .pointer (some ⟨W.heap.size, 0, none⟩)]] w fun e w' => (∃ y : Int, e = .returned (.int .i64 y)) ∧ DF W ks w' := by
  refine (search_any b off n c 0 ks w h1 hn hl 57 _ call32 (DR W ks) (DS W ks) (DF W ks) (fun _ => True) h0 ?_ ?_ ?_ ?_ ?_).mono ?_
  · rintro m o w' ⟨P, d, _, hbel, _⟩ hm
    exact (hbel.cell (p := ⟨b, off + m * 4 + 3, none⟩) hb).trans (hc m hm)
  · rintro m w' _ ⟨P, d, hM, hbel, _, _, he⟩
    refine (deep_found m _ _ w').mono ?_
    rintro e w2 ⟨rfl, rfl⟩
    rw [dl_zero] at he
    subst he
    exact ⟨rfl, hbel, hM.deep⟩
  · intro m o oi w' h1 h2 h3 h4
    exact dr_next hl hn m o oi w' h1 h2 h3 h4
  · rintro m o w' _ ⟨P, d, hM, hbel, hP, hd, he⟩ _
    exact ⟨P, d, hM, hbel, hP, hd, by simpa using he⟩
  · intros
    trivial
  · rintro e w' ⟨y, hy, rfl, ⟨_, hF⟩ | ⟨h9, _⟩⟩
    · exact ⟨⟨y, rfl⟩, hF⟩
    · rw [whole_fin ks hW] at h9
      omega
theorem dr_start (W : World) (ks : List Int) (hW : wholeB ks = true) : DR W ks 0 1 ((W.alloc (.cells #[.int .i64 0] 3)).alloc (.cells #[.slice none 0 0] 91)) := by
  refine ⟨[], 0, ⟨⟨none, 0, 0, rfl, alloc_at' _ _ _ (by simp), World.ownsRow_nil _ _ _ _⟩, ?_, by simp⟩, ?_, Nat.zero_le _, Nat.zero_le _, ?_⟩
  · rw [Below.heap_alloc _ _ _ (by simp)]
    exact alloc_at _ _
  · exact ((Below.refl _ _).alloc (Nat.le_refl _) _).alloc (by simp) _
  · simp [deepI, hW]
theorem deep_not (v : Value) (ns : List Nd) (w : World) (h : NodesAt w v ns) (hn : ns.length ≤ 1000000) (hW : wholeB (kk ns) = false) :
    Calls Tryz.prog 26 #[v] w fun e w' => e = .returned (.int .i64 0) ∧ Below w.heap.size w w' := by
  go_enter Tryz.func26, Tryz.ntmps26
  go_wp2_with fail
  refine (whole_any _ ns _ h hn).mono ?_
  rintro e w' ⟨rfl, rfl⟩
  rw [hW]
  go_wp2_with fail
  go_ret
  exact ⟨rfl, Below.refl _ _⟩
theorem deep_in (b off n c : Nat) (ns : List Nd) (w : World) (h : NodesAt w (.slice (some ⟨b, off, none⟩) n c) ns) (hl : Hid (ns.length = n)) (h1 : 0 < n) (hn : n ≤ 1000000) (hb : b < w.heap.size) (hc : Hid (CellsIn w b off (nodeCells ns))) (hW : Hid (wholeB (kk ns) = true)) :
    Calls Tryz.prog 26 #[.slice (some ⟨b, off, none⟩) n c] w fun e w' => e = .returned (.int .i64 (deepI (kk ns))) ∧ Below w.heap.size w w' := by
  go_enter Tryz.func26, Tryz.ntmps26
  go_wp2_with fail
  refine (whole_any _ ns _ h (by rw [hl.out]; exact hn)).mono ?_
  rintro e w' ⟨rfl, rfl⟩
  rw [hW.out]
  go_wp2_with fail
  refine (search_deep b off n c (kk ns) w _ h1 hn (by rw [length_kk, hl.out]) hb (fun m hm => hc.out.kids m (by rw [hl.out]; exact hm)) hW.out (dr_start w _ hW.out)).mono ?_
  rintro e w1 ⟨⟨y, rfl⟩, hb1, hD⟩
  have cD := cell_of_one hD
  go_wp2_with fail
  go_ret
  exact ⟨rfl, hb1⟩
def IRet (W : World) (x : Int) (e : Ending) (w' : World) : Prop := ∃ y : Int, y = x ∧ e = .returned (.int .i64 y) ∧ Below W.heap.size W w'
theorem nodes_slice' {w : World} {v : Value} {ns : List Nd} (h : NodesAt w v ns) (hp : 0 < ns.length) : ∃ b off c, v = .slice (some ⟨b, off, none⟩) ns.length c ∧ ns.length ≤ c ∧ c ≤ maxLen ∧ b < w.heap.size ∧ CellsIn w b off (nodeCells ns) := by
  obtain ⟨_, p, c, rfl, h1, h2, h4⟩ := h
  obtain ⟨b, off, rfl, h5, h6⟩ := h4 (by omega)
  exact ⟨b, off, c, rfl, h1, h2, h5, h6⟩
theorem deep_any (v : Value) (ns : List Nd) (w : World) (h : NodesAt w v ns) (hn : ns.length ≤ 1000000) : Calls Tryz.prog 26 #[v] w (IRet w (deepI (kk ns))) := by
  cases hW : wholeB (kk ns) with
  | false =>
    refine (deep_not v ns w h hn hW).mono ?_
    rintro e w' ⟨rfl, hb⟩
    exact ⟨_, by simp [deepI, hW], rfl, hb⟩
  | true =>
    have hp := wholeB_pos _ hW
    rw [length_kk] at hp
    obtain ⟨b, off, c, rfl, _, _, hb, hc⟩ := nodes_slice' h hp
    refine (deep_in b off ns.length c ns w h rfl hp hn hb hc hW).mono ?_
    rintro e w' ⟨rfl, hb⟩
    exact ⟨_, rfl, rfl, hb⟩
end Go.Proofs.YtggjckalmlploaaGreatDoor
