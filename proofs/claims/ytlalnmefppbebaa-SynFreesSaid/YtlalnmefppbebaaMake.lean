/- tree.Make. -/
import Derived.Test.YtlalnmefppbebaaSub
namespace Go.Proofs.Ytlalnmefppbebaa
open Go.RowKit Go.Proofs.TreeMath
def Nd.val (x : Nd) : Value := .agg #[.int .i64 x.kind, .string x.text, .int .i64 x.num, .int .i64 x.kids]
def makeN (x : Nd) (Ls : List (List Nd)) : List Nd := { x with kids := Ls.length } :: Ls.flatten
theorem node_new (w : World) (x : Nd) : NodesAt (w.alloc (.cells #[.int .i64 x.kind, .string x.text, .int .i64 x.num, .int .i64 x.kids] 42)) (.slice (some ⟨w.heap.size, 0, none⟩) 1 1) [x] := by
  refine ⟨rfl, _, _, rfl, Nat.le_refl _, by unfold maxLen; omega, fun _ => ⟨_, _, rfl, by simp, ?_⟩⟩
  intro j u hj
  have h1 : (w.alloc (.cells #[.int .i64 x.kind, .string x.text, .int .i64 x.num, .int .i64 x.kids] 42)).heap[w.heap.size]? = some (.cells #[.int .i64 x.kind, .string x.text, .int .i64 x.num, .int .i64 x.kids] 42 (0, 0)) := by
    show (w.heap.push _)[w.heap.size]? = _
    simp
  unfold World.cell?
  simp only [h1]
  have hj' : [Value.int .i64 x.kind, .string x.text, .int .i64 x.num, .int .i64 x.kids][j]? = some u := by simpa [nodeCells, Nd.cells] using hj
  simpa using hj'
set_option maxHeartbeats 1000000 in
theorem make_zero (k m s : Int) (t : ByteArray) (p : Option Addr) (c : Nat) (w : World) :
    Calls Try.prog 26 #[.agg #[.int .i64 k, .string t, .int .i64 m, .int .i64 s], .slice p 0 c] w (NRet w [⟨k, t, m, 0⟩]) := by
  rcases p with _ | a <;>
  · go_enter Try.func26, Try.ntmps26
    go_wp2_with fail
    refine (join_any (w.heap.size + 1 + 1) 0 1 [[⟨k, t, m, 0⟩]] _ (by simp) (by
      have h := lists_one ((w.alloc (.cells #[.int .i64 k, .string t, .int .i64 m, .int .i64 0] 42)).alloc (.cells #[.int .i64 k, .string t, .int .i64 m, .int .i64 0] 42)) (.slice (some ⟨w.heap.size + 1, 0, none⟩) 1 1) 22 [⟨k, t, m, 0⟩] (by
        have := node_new (w.alloc (.cells #[.int .i64 k, .string t, .int .i64 m, .int .i64 0] 42)) ⟨k, t, m, 0⟩
        simpa using this)
      show Lists _ _ _ _
      simpa using h) (by simp) (by simp)).mono ?_
    rintro e w1 ⟨v', rfl, hv, hb1⟩
    have HV := Lib.hid hv
    clear hv
    go_wp2_with fail
    go_ret
    refine ⟨_, rfl, ?_, ((((Below.refl _ _).alloc (Nat.le_refl _) _).alloc (by simp) _).alloc (by simp; omega) _).trans (hb1.mono (by simp; omega))⟩
    have h9 := HV.out
    simp only [List.flatten_cons, List.flatten_nil, List.append_nil] at h9
    exact h9
theorem lists_owns {w : World} {base n : Nat} {v : Value} {vs : List Value} {Ls : List (List Nd)} (h : w.ownsRow base 22 1 v n vs) (hn : n = Ls.length) (hp : 0 < n) (hL : ∀ i, i < Ls.length → NodesAt w (vs.getD i default) (Ls.getD i [])) :
    ∃ b c, v = .slice (some ⟨b, 0, none⟩) Ls.length c ∧ b < w.heap.size ∧ Lists w b 0 Ls := by
  obtain ⟨hl, p, c, rfl, _, _, h4⟩ := SliceAt.of_owns h
  subst hn
  rcases h.2 with ⟨_, h0⟩ | ⟨g, cap, cur, hv, _, _, _⟩
  · omega
  · simp only [Value.slice.injEq] at hv
    obtain ⟨rfl, _, rfl⟩ := hv
    obtain ⟨b, off, hh, hb, hc⟩ := h4 (by omega)
    simp only [Option.some.injEq, Addr.mk.injEq] at hh
    obtain ⟨rfl, rfl, _⟩ := hh
    refine ⟨g, c, rfl, hb, fun i hi => ⟨vs.getD i default, hc i _ ?_, hL i hi⟩⟩
    rw [List.getD_eq_getElem?_getD, List.getElem?_eq_getElem (by omega)]
    rfl
theorem infoSlice : ∃ i, Try.prog.info? 22 = some i ∧ i.zero = some (.slice none 0 0) ∧ i.size = 1 ∧ i.bytes = 24 := info_of' (by kernel_rfl)
theorem vs_one {w : World} {vs : List Value} {Ls : List (List Nd)} (hl : vs.length = Ls.length) (h : ∀ i, i < Ls.length → NodesAt w (vs.getD i default) (Ls.getD i [])) : ∀ u ∈ vs, u.oneCell' = true := by
  intro u hu
  obtain ⟨i, hi, rfl⟩ := List.getElem_of_mem hu
  have := h i (by omega)
  rw [List.getD_eq_getElem?_getD, List.getElem?_eq_getElem hi] at this
  obtain ⟨_, p, c, hv, _⟩ := this
  simp only [Option.getD_some] at hv
  rw [hv]
  rfl
theorem owns_lit (w : World) (base : Nat) (x : Value) (t : TypeId) (h : base ≤ w.heap.size) : (w.alloc (.cells #[x] t)).ownsRow base t 1 (.slice (some ⟨w.heap.size, 0, none⟩) 1 1) 1 [x] := by
  refine ⟨rfl, .inr ⟨w.heap.size, 1, #[x], rfl, h, ?_, Nat.le_refl _, by unfold maxLen; omega, rfl, rfl⟩⟩
  show (w.heap.push _)[w.heap.size]? = _
  simp
theorem below3 (w : World) (a b c : Obj) : Below w.heap.size w (((w.alloc a).alloc b).alloc c) := (((Below.refl _ _).alloc (Nat.le_refl _) _).alloc (by simp) _).alloc (by simp; omega) _
theorem below2 (w : World) (a b : Obj) : Below w.heap.size w ((w.alloc a).alloc b) := ((Below.refl _ _).alloc (Nat.le_refl _) _).alloc (by simp) _
set_option maxHeartbeats 2000000 in
theorem make_some (k m s : Int) (t : ByteArray) (b off n c : Nat) (vs : List Value) (Ls : List (List Nd)) (w : World) (hb : b < w.heap.size) (hc : Hid (CellsIn w b off vs)) (hl : Hid (vs.length = n)) (hL : Hid (Ls.length = n)) (hn0 : 0 < n) (hn : n ≤ 900) (hf : Hid (Ls.flatten.length ≤ 900000)) (hv : Hid (∀ i, i < Ls.length → NodesAt w (vs.getD i default) (Ls.getD i []))) :
    Calls Try.prog 26 #[.agg #[.int .i64 k, .string t, .int .i64 m, .int .i64 s], .slice (some ⟨b, off, none⟩) n c] w (NRet w (makeN ⟨k, t, m, 0⟩ Ls)) := by
  obtain ⟨i0, hi, hz0, hz1, hz2⟩ := infoSlice
  have HI := Lib.hid (And.intro hi (And.intro hz0 (And.intro hz1 hz2)))
  clear hi hz0 hz1 hz2
  go_enter Try.func26, Try.ntmps26
  go_wp2_with ((at_builtin; refine wpList_append_own _ rfl _ _ 67 rfl w.heap.size 22 i0 (.slice none 0 0) 1 24 Try.underlying67 HI.out.1 HI.out.2.1 HI.out.2.2.1 HI.out.2.2.2 rfl (by decide) (.slice (some ⟨w.heap.size + 1 + 1, 0, none⟩) 1 1) 1 [.slice (some ⟨w.heap.size + 1, 0, none⟩) 1 1] rfl ?q1 ⟨b, off, none⟩ n c vs rfl (by rw [hl.out]; omega) ?q2 (vs_one (by rw [hl.out, hL.out]) hv.out) (by unfold maxLen; omega) (by omega) (by simp; omega) ?_; (case q1 => have := owns_lit ((w.alloc (.cells #[.int .i64 k, .string t, .int .i64 m, .int .i64 n] 42)).alloc (.cells #[.int .i64 k, .string t, .int .i64 m, .int .i64 n] 42)) w.heap.size (.slice (some ⟨w.heap.size + 1, 0, none⟩) 1 1) 22 (by simp; omega); simpa using this); (case q2 => exact (hc.out.kept ((below3 w _ _ _).block b hb)).at); intro v' w3 hown' hgrow hnil; have HO3 := Lib.hid hown'; have HG := Lib.hid hgrow; clear hown' hgrow hnil))
  have hnode := node_new (w.alloc (.cells #[.int .i64 k, .string t, .int .i64 m, .int .i64 n] 42)) ⟨k, t, m, n⟩
  have hbel3 : Below (w.heap.size + 1 + 1) ((w.alloc (.cells #[.int .i64 k, .string t, .int .i64 m, .int .i64 n] 42)).alloc (.cells #[.int .i64 k, .string t, .int .i64 m, .int .i64 n] 42)) w3 :=
    (((Below.refl _ _).alloc (by simp) _)).grown HG.out (by simp) fun q hq => by
      have hq' : some (w.heap.size + 1 + 1) = some q := hq
      simp at hq'
      omega
  have hbelw : Below w.heap.size w w3 := (below2 w _ _).trans (hbel3.mono (by omega))
  obtain ⟨g, c3, hv3, hg3, hL3⟩ := lists_owns (Ls := [⟨k, t, m, n⟩] :: Ls) HO3.out (by rw [List.length_cons, hL.out]; omega) (by omega) (fun i hi => by
    cases i with
    | zero =>
      refine NodesAt.below ?_ (show Below ((w.alloc (.cells #[.int .i64 k, .string t, .int .i64 m, .int .i64 n] 42)).alloc (.cells #[.int .i64 k, .string t, .int .i64 m, .int .i64 n] 42)).heap.size _ w3 by simpa using hbel3)
      simpa using hnode
    | succ i =>
      have := (hv.out i (by simpa using hi)).below hbelw
      simpa using this)
  have HL3 := Lib.hid hL3
  clear hL3 hnode
  subst hv3
  go_wp2_with fail
  refine (join_any g 0 c3 ([⟨k, t, m, n⟩] :: Ls) w3 hg3 HL3.out (by simp; have := hf.out; simp at this; omega) (by simp; rw [hL.out]; omega)).mono ?_
  rintro e w4 ⟨v', rfl, hv', hb4⟩
  have HV := Lib.hid hv'
  clear hv'
  go_wp2_with fail
  go_ret
  refine ⟨_, rfl, ?_, hbelw.trans (hb4.mono hbelw.size)⟩
  have h9 := HV.out
  unfold makeN
  rw [hL.out]
  simp only [List.flatten_cons, List.singleton_append] at h9
  exact h9
def sumLen (Ls : List (List Nd)) : Prop := Ls.length ≤ 900 ∧ Ls.flatten.length ≤ 900000
theorem make_any (x : Nd) (v : Value) (Ls : List (List Nd)) (w : World) (h : ListsAt w v Ls) (hs : sumLen Ls) : Calls Try.prog 26 #[x.val, v] w (NRet w (makeN x Ls)) := by
  obtain ⟨k, t, m, s⟩ := x
  obtain ⟨vs, ⟨hl, p, c, rfl, _, _, h4⟩, hv⟩ := h
  by_cases h0 : Ls.length = 0
  · obtain rfl : Ls = [] := List.eq_nil_of_length_eq_zero h0
    exact make_zero k m s t p c w
  · obtain ⟨b, off, rfl, hb, hc⟩ := h4 h0
    exact make_some k m s t b off Ls.length c vs Ls w hb hc (Lib.hid (by simpa using hl)) rfl (by omega) hs.1 hs.2 hv
end Go.Proofs.Ytlalnmefppbebaa
