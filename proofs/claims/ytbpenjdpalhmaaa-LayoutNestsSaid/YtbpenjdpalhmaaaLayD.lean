/- The document's own answers of a whole document; its Make; the laws' awake. -/
import Derived.Test.YtbpenjdpalhmaaaLayB
import Derived.Test.YtbpenjdpalhmaaaLayR
import Derived.Test.YtbpenjdpalhmaaaLayK
import Derived.Test.YtbpenjdpalhmaaaLayY
import Derived.Test.YtbpenjdpalhmaaaSame
import Derived.Test.YtbpenjdpalhmaaaRefMake
namespace Go.Proofs.Ytbpenjdpalhmaaa
open Go.Shelf Go.RowKit Go.Lib Go.Sort Go.Proofs.TreeMath
theorem doc_one {f : F} {ns : List Nd} (hf : IsDoc f ns) : ∃ n k, f = .cons n k .nil ∧ ns = [] ++ (n :: (k.flat ++ [])) ∧ 0 < ns.length := by
  obtain ⟨_, h2, h3, _⟩ := hf
  cases f with
  | nil => simp [F.cnt] at h2
  | cons n k r =>
    cases r with
    | nil =>
      refine ⟨n, k, rfl, by rw [← h3]; simp [F.flat], ?_⟩
      rw [← h3]
      simp [F.flat]
    | cons _ _ _ => simp [F.cnt] at h2
theorem ref_flat_any (v : Value) (ns : List Nd) (f : F) (w : World) (h : NodesAt w v ns) (hf : IsDoc f ns) : Calls Try.prog 15 #[v, .int .i64 0] w (RX (flatT f) w) := by
  obtain ⟨n, k, rfl, hns, hp⟩ := doc_one hf
  obtain ⟨h1, _, _, h4, h5, _⟩ := hf
  have hat := h
  obtain ⟨bd, off, cap, rfl, _, _, hb, hc⟩ := nodes_slice h hp
  exact (all_flat w ns bd off cap h5 hat hb hc _ h1 h4).1 [] [] w hns (Below.refl _ _)
theorem ref_lay_any (v : Value) (ns : List Nd) (f : F) (wd : Nat) (w : World) (h : NodesAt w v ns) (hf : IsDoc f ns) (hw : wd ≤ 2000) : Calls Try.prog 32 #[v, .int .i64 0, .int .i64 0, .int .i64 0, .int .i64 (wd : Int)] w (RX (layT wd f 0 0 false) w) := by
  obtain ⟨n, k, rfl, hns, hp⟩ := doc_one hf
  obtain ⟨h1, _, _, h4, h5, _⟩ := hf
  have hat := h
  obtain ⟨bd, off, cap, rfl, _, _, hb, hc⟩ := nodes_slice h hp
  exact (all_lay w ns wd bd off cap h5 hw hat hb hc _ h1 h4).1 [] [] 0 0 w hns (Nat.zero_le _) (Nat.zero_le _) (Below.refl _ _)
theorem ref_layout_any (v : Value) (ns : List Nd) (f : F) (wd : Nat) (w : World) (h : NodesAt w v ns) (hf : IsDoc f ns) (hw : wd ≤ 2000) : Calls Try.prog 16 #[v, .int .i64 (wd : Int)] w (RX (layT wd f 0 0 false) w) := by
  have C := Lib.hid (ref_lay_any v ns f wd w h hf hw)
  clear h hf
  go_enter Try.func16, Try.ntmps16
  go_wp2_with fail
  refine C.out.mono ?_
  rintro e w1 ⟨rfl, b1⟩
  have B1 := Lib.hid b1
  clear b1
  go_wp2_with fail
  go_ret
  exact ⟨rfl, B1.out⟩
/-- The document's Make of this layer. -/
theorem rmake_any (x : Nd) (v : Value) (Ls : List (List Nd)) (w : World) (h : ListsAt w v Ls) (hs : sumLen Ls) : Calls Try.prog 21 #[x.val, v] w (NRet w (makeN x Ls)) := by
  have C := Lib.hid (fun (W : World) (hW : Below w.heap.size w W) => ref_make x v Ls W (h.below hW) hs)
  obtain ⟨k, s, m, d⟩ := x
  have hn := node_cells w k s m d
  have c0 := Lib.cell_of_heap hn 0
  have c1 := Lib.cell_of_heap hn 1
  have c2 := Lib.cell_of_heap hn 2
  have c3 := Lib.cell_of_heap hn 3
  simp only [List.getElem?_toArray, List.getElem?_cons_succ, List.getElem?_cons_zero] at c0 c1 c2 c3
  have hb : Below w.heap.size w (w.alloc (.cells #[.int .i64 k, .string s, .int .i64 m, .int .i64 d] 38)) := (Below.refl _ _).alloc (Nat.le_refl _) _
  have C2 := Lib.hid (C.out _ hb)
  have HB := Lib.hid hb
  clear h hn C hb
  show Calls Try.prog 21 #[.agg #[.int .i64 k, .string s, .int .i64 m, .int .i64 d], v] w _
  go_enter Try.func21, Try.ntmps21
  go_wp2_with fail
  refine C2.out.mono ?_
  rintro e w1 ⟨v', rfl, h1, b1⟩
  have H1 := Lib.hid h1
  have B1 := Lib.hid b1
  clear h1 b1
  go_wp2_with fail
  go_ret
  exact ⟨_, rfl, H1.out, HB.out.trans (B1.out.mono (by simp))⟩
end Go.Proofs.Ytbpenjdpalhmaaa
