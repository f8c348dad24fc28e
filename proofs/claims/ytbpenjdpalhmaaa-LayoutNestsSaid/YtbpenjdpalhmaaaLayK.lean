/- The program: Text, Line, Nest, Group, Cat. -/
import Derived.Test.YtbpenjdpalhmaaaMake
import Derived.Test.YtbpenjdpalhmaaaLayA
namespace Go.Proofs.Ytbpenjdpalhmaaa
open Go.RowKit Go.Proofs.TreeMath
theorem lists_lit (w : World) (vs : List Value) (t : TypeId) (Ls : List (List Nd)) (hl : vs.length = Ls.length) (hm : vs.length ≤ 1000) (h : ∀ i, i < Ls.length → NodesAt w (vs.getD i default) (Ls.getD i [])) :
    ListsAt (w.alloc (.cells vs.toArray t)) (.slice (some ⟨w.heap.size, 0, none⟩) vs.length vs.length) Ls := by
  refine ⟨vs, ⟨by omega, _, _, by rw [hl], by omega, by unfold maxLen; omega, fun _ => ⟨_, _, rfl, by simp, ?_⟩⟩, fun i hi => (h i hi).below ((Below.refl _ _).alloc (Nat.le_refl _) _)⟩
  intro j u hj
  have h1 : (w.alloc (.cells vs.toArray t)).heap[w.heap.size]? = some (.cells vs.toArray t (0, 0)) := by
    show (w.heap.push _)[w.heap.size]? = _
    simp
  unfold World.cell?
  simp only [h1]
  simpa using hj
theorem ListsAt.nil (w : World) : ListsAt w (.slice none 0 0) [] :=
  ⟨[], ⟨rfl, _, _, rfl, Nat.le_refl _, by unfold maxLen; omega, fun h => absurd rfl h⟩, fun i hi => absurd hi (by simp)⟩
theorem node_form {w : World} {v : Value} {ns : List Nd} (h : NodesAt w v ns) : ∃ p c, v = .slice p ns.length c := by
  obtain ⟨_, p, c, hv, _⟩ := h
  exact ⟨p, c, hv⟩
theorem text_any (s : ByteArray) (w : World) : Calls Try.prog 18 #[.string s] w (NRet w [⟨41, s, 0, 0⟩]) := by
  have C := Lib.hid (make_any ⟨41, s, 0, 0⟩ _ [] w (ListsAt.nil w) ⟨by simp, by simp⟩)
  go_enter Try.func18, Try.ntmps18
  go_wp2_with fail
  refine C.out.mono ?_
  rintro e w1 ⟨v, rfl, h1, b1⟩
  have H1 := Lib.hid h1
  have B1 := Lib.hid b1
  clear h1 b1
  go_wp2_with fail
  go_ret
  exact ⟨_, rfl, H1.out, B1.out⟩
theorem line_any (w : World) : Calls Try.prog 19 #[] w (NRet w [⟨42, ByteArray.empty, 0, 0⟩]) := by
  have C := Lib.hid (make_any ⟨42, ByteArray.empty, 0, 0⟩ _ [] w (ListsAt.nil w) ⟨by simp, by simp⟩)
  go_enter Try.func19, Try.ntmps19
  go_wp2_with fail
  refine C.out.mono ?_
  rintro e w1 ⟨v, rfl, h1, b1⟩
  have H1 := Lib.hid h1
  have B1 := Lib.hid b1
  clear h1 b1
  go_wp2_with fail
  go_ret
  exact ⟨_, rfl, H1.out, B1.out⟩
theorem nest_any (n : Int) (v : Value) (ns : List Nd) (w : World) (h : NodesAt w v ns) (hn : ns.length ≤ 900000) : Calls Try.prog 20 #[.int .i64 n, v] w (NRet w (makeN ⟨43, ByteArray.empty, n, 0⟩ [ns])) := by
  obtain ⟨p, c, rfl⟩ := node_form h
  obtain ⟨v, hv⟩ : ∃ v, v = Value.slice p ns.length c := ⟨_, rfl⟩
  rw [← hv] at h
  have C := Lib.hid (make_any ⟨43, ByteArray.empty, n, 0⟩ _ [ns] (w.alloc (.cells #[v] 22)) (lists_lit w [v] 22 [ns] rfl (by simp) (fun i hi => by
    obtain rfl : i = 0 := by simpa using hi
    exact h)) ⟨by simp, by simpa using hn⟩)
  rw [hv] at C
  clear h hv
  go_enter Try.func20, Try.ntmps20
  go_wp2_with fail
  refine C.out.mono ?_
  rintro e w1 ⟨v', rfl, h1, b1⟩
  have H1 := Lib.hid h1
  have B1 := Lib.hid b1
  clear h1 b1
  go_wp2_with fail
  go_ret
  exact ⟨_, rfl, H1.out, ((Below.refl _ _).alloc (Nat.le_refl _) _).trans (B1.out.mono (by simp))⟩
theorem group_any (v : Value) (ns : List Nd) (w : World) (h : NodesAt w v ns) (hn : ns.length ≤ 900000) : Calls Try.prog 22 #[v] w (NRet w (makeN ⟨44, ByteArray.empty, 0, 0⟩ [ns])) := by
  obtain ⟨p, c, rfl⟩ := node_form h
  obtain ⟨v, hv⟩ : ∃ v, v = Value.slice p ns.length c := ⟨_, rfl⟩
  rw [← hv] at h
  have C := Lib.hid (make_any ⟨44, ByteArray.empty, 0, 0⟩ _ [ns] (w.alloc (.cells #[v] 22)) (lists_lit w [v] 22 [ns] rfl (by simp) (fun i hi => by
    obtain rfl : i = 0 := by simpa using hi
    exact h)) ⟨by simp, by simpa using hn⟩)
  rw [hv] at C
  clear h hv
  go_enter Try.func22, Try.ntmps22
  go_wp2_with fail
  refine C.out.mono ?_
  rintro e w1 ⟨v', rfl, h1, b1⟩
  have H1 := Lib.hid h1
  have B1 := Lib.hid b1
  clear h1 b1
  go_wp2_with fail
  go_ret
  exact ⟨_, rfl, H1.out, ((Below.refl _ _).alloc (Nat.le_refl _) _).trans (B1.out.mono (by simp))⟩
theorem cat_any (v : Value) (Ls : List (List Nd)) (w : World) (h : ListsAt w v Ls) (hs : sumLen Ls) : Calls Try.prog 23 #[v] w (NRet w (makeN ⟨45, ByteArray.empty, 0, 0⟩ Ls)) := by
  have C := Lib.hid (make_any ⟨45, ByteArray.empty, 0, 0⟩ _ Ls w h hs)
  clear h hs
  go_enter Try.func23, Try.ntmps23
  go_wp2_with fail
  refine C.out.mono ?_
  rintro e w1 ⟨v', rfl, h1, b1⟩
  have H1 := Lib.hid h1
  have B1 := Lib.hid b1
  clear h1 b1
  go_wp2_with fail
  go_ret
  exact ⟨_, rfl, H1.out, B1.out⟩
end Go.Proofs.Ytbpenjdpalhmaaa
