/- The program: layOut, Layout, Flat. -/
import Derived.Test.YtbpenjdpalhmaaaLayQ
namespace Go.Proofs.Ytbpenjdpalhmaaa
open Go.Shelf Go.RowKit Go.Lib Go.Sort Go.Proofs.TreeMath Go.Proofs.LayoutMath
theorem run_store_fn (P : Program) (w : World) (a : Addr) (m : Mode) (f : Fn) (x y : Array Value) : (store a (.func f x y) m).run P w = stored P w a (.func f x y) m := run_store P w a _ m rfl
attribute [local go_sem] run_store_complex run_store_fn
/-- A function that returns a text. -/
def RS (l : List UInt8) (W : World) (e : Ending) (w' : World) : Prop := e = .returned (.string ⟨l.toArray⟩) ∧ Below W.heap.size W w'
/-- The tree of a document. -/
def IsDoc (f : F) (ns : List Nd) : Prop := f.ok ∧ f.cnt = 1 ∧ f.flat = ns ∧ f.fine ∧ ns.length ≤ 4000 ∧ docB ns = true
theorem isDoc_of (ns : List Nd) (h : docB ns = true) (ht : ∀ x ∈ ns, x.text.size ≤ 1000000) : ∃ f, IsDoc f ns := by
  have h' := h
  unfold docB at h'
  simp only [Bool.and_eq_true, decide_eq_true_eq] at h'
  obtain ⟨f, h1, h2, h3⟩ := doc_of ns h'.1.2
  refine ⟨f, h1, h2, h3, fine_flat f fun n hn => ?_, h'.1.1, h⟩
  rw [h3] at hn
  exact ⟨List.all_eq_true.1 h'.2 n hn, ht n hn⟩
set_option maxHeartbeats 2000000 in
theorem layOut_any (v : Value) (ns : List Nd) (f : F) (wd : Nat) (fl : Bool) (w : World) (h : NodesAt w v ns) (hf : IsDoc f ns) : Calls Try.prog 25 #[v, .int .i64 (wd : Int), .agg #[.int .i64 0, .bool fl]] w (RS (layT wd f 0 0 fl) w) := by
  obtain ⟨h1, h2, h3, h4, h5, h6⟩ := hf
  unfold docB at h6
  simp only [Bool.and_eq_true, decide_eq_true_eq] at h6
  obtain ⟨⟨_, hwh⟩, _⟩ := h6
  have hp := wholeB_pos _ hwh
  rw [length_kk] at hp
  have ht : ∀ g : F, g.fine → ∀ x ∈ g.flat, x.text.size ≤ 1000000 := by
    intro g
    induction g with
    | nil => intro _ x hx; simp [F.flat] at hx
    | cons n k r hk hr =>
      rintro ⟨a1, a2, a3, a4⟩ x hx
      simp only [F.flat, List.mem_cons, List.mem_append] at hx
      rcases hx with rfl | hx | hx
      · exact a2
      · exact hk a3 x hx
      · exact hr a4 x hx
  have htx := ht f h4
  rw [h3] at htx
  clear ht
  obtain ⟨bd, off, cap, rfl, _, _, hb, hc⟩ := nodes_slice h hp
  have SZ := Lib.hid (fun (W2 : World) (hW : Below w.heap.size w W2) => sizes_any _ ns W2 (h.below hW) h5 hwh htx)
  obtain ⟨n, k, rfl⟩ : ∃ n k, f = .cons n k .nil := by
    cases f with
    | nil => simp [F.cnt] at h2
    | cons n k r =>
      cases r with
      | nil => exact ⟨n, k, rfl⟩
      | cons _ _ _ => simp [F.cnt] at h2
  have hns : ns = [] ++ (n :: (k.flat ++ [])) := by rw [← h3]; simp [F.flat]
  have GD := Lib.hid (fun (b p S : Nat) (l : List UInt8) (w2 : World) (hl : l = []) (hP : PT w b p (.slice (some ⟨bd, off, none⟩) ns.length cap) S ns wd l w2) => (all_good w b p S ns wd bd off cap h5 hb hc (.cons n k .nil) h1 h4).1 [] [] 0 fl l w2 hns (Nat.zero_le _) (by rw [hl]; exact Nat.zero_le _) hP)
  have hszk : 1 + k.sz = ns.length := by rw [← h3, F.flat_length]; simp [F.sz]
  have HL := Lib.hid (lay_len wd (.cons n k .nil) h4 0 0 fl (by simp only [F.sz]; omega))
  obtain ⟨M, hM⟩ : ∃ M, M = ns.length := ⟨_, rfl⟩
  have HM := Lib.hid hM
  rw [← hM]
  rw [← hM] at SZ GD
  clear hM hns h h1 h2 h3 h4 hwh hp htx hszk hc
  go_enter Try.func25, Try.ntmps25
  go_wp2_with fail
  refine (SZ.out _ ?c1).mono ?_
  case c1 => exact ((Below.refl _ _).alloc (Nat.le_refl _) _).alloc (by simp) _
  have hb2 : Below w.heap.size w ((w.alloc (.cells #[.int .i64 0, .bool fl] 48)).alloc (.cells #[.pointer none, .slice none 0 0] 58)) := ((Below.refl _ _).alloc (Nat.le_refl _) _).alloc (by simp) _
  have hx2 : ((w.alloc (.cells #[.int .i64 0, .bool fl] 48)).alloc (.cells #[.pointer none, .slice none 0 0] 58)).heap[w.heap.size]? = some (.cells #[.int .i64 0, .bool fl] 48 (0, 0)) := by
    rw [heap_one]
    show (w.heap.push _)[w.heap.size]? = _
    simp
  have hy2 : ((w.alloc (.cells #[.int .i64 0, .bool fl] 48)).alloc (.cells #[.pointer none, .slice none 0 0] 58)).heap[w.heap.size + 1]? = some (.cells #[.pointer none, .slice none 0 0] 58 (0, 0)) := by
    show ((w.heap.push _).push _)[w.heap.size + 1]? = _
    rw [Array.getElem?_push]
    simp
  have hz2 : ((w.alloc (.cells #[.int .i64 0, .bool fl] 48)).alloc (.cells #[.pointer none, .slice none 0 0] 58)).heap.size = w.heap.size + 2 := by simp
  obtain ⟨w2, hw2⟩ : ∃ w2, w2 = (w.alloc (.cells #[.int .i64 0, .bool fl] 48)).alloc (.cells #[.pointer none, .slice none 0 0] 58) := ⟨_, rfl⟩
  rw [← hw2] at hb2 hx2 hy2 hz2 ⊢
  clear hw2
  rintro e w3 ⟨rfl, row3, b3⟩
  rw [hz2] at row3
  rw [hz2, ← HM.out]
  rw [← HM.out] at row3
  have hb3 := hb2.trans (b3.mono hb2.size)
  have hx3 := (b3.block w.heap.size (by omega)).trans hx2
  have hy3 := (b3.block (w.heap.size + 1) (by omega)).trans hy2
  have hz3 : w.heap.size + 2 < w3.heap.size := row3.lt
  clear hb2 hx2 hy2 hz2 b3
  have HX3 := Lib.hid hx3
  have HY3 := Lib.hid hy3
  have HR3 := Lib.hid row3
  have HB3 := Lib.hid hb3
  have s0 := Lib.cell_of_heap hx3 0
  have s1 := Lib.cell_of_heap hx3 1
  simp only [List.getElem?_toArray, List.getElem?_cons_succ, List.getElem?_cons_zero] at s0 s1
  have hlt3 : w.heap.size < w3.heap.size := by omega
  have hPT : PT w (w.heap.size + 1) w3.heap.size (.slice (some ⟨bd, off, none⟩) M cap) (w.heap.size + 2) ns wd [] (w3.alloc (.cells #[.slice (some ⟨bd, off, none⟩) M cap, .slice (some ⟨w.heap.size + 2, 0, none⟩) M M, .int .i64 (wd : Int), .complex .f64 0 0, .func (.func 36) #[] #[.pointer (some ⟨w.heap.size + 1, 0, none⟩)]] 67)) := by
    unfold PT
    have hbl : ∀ i, i < w3.heap.size → (w3.alloc (.cells #[.slice (some ⟨bd, off, none⟩) M cap, .slice (some ⟨w.heap.size + 2, 0, none⟩) M M, .int .i64 (wd : Int), .complex .f64 0 0, .func (.func 36) #[] #[.pointer (some ⟨w.heap.size + 1, 0, none⟩)]] 67)).heap[i]? = w3.heap[i]? := by
      intro i hi
      show (w3.heap.push _)[i]? = _
      rw [Array.getElem?_push_lt hi, Array.getElem?_eq_getElem hi]
    refine ⟨by omega, hb3.alloc hb3.size _, .inl ⟨by omega, .slice none 0 0, (hbl _ (by omega)).trans hy3, World.ownsRowF_nil _ _ _ _, by simp [Value.ownBlock]⟩, ?_, ?_⟩
    · show (w3.heap.push _)[w3.heap.size]? = _
      rw [show colA [] 0 = 0 from rfl, show nlC [] = 0 from rfl]
      unfold pCells
      rw [flt_zero, ← HM.out]
      simp
    · rw [← HM.out]
      exact row3.of_block (hbl _ (by omega))
  have CALL := Lib.hid (GD.out _ _ _ _ _ rfl hPT)
  have HLT := Lib.hid (show w.heap.size ≤ w3.heap.size by omega)
  clear hx3 hy3 row3 hb3 hPT GD SZ HX3 HY3 HR3
  go_wp2_with fail
  refine CALL.out.mono ?_
  rintro e w4 ⟨rfl, p4, _⟩
  rw [List.nil_append] at p4
  unfold PT at p4
  have STR := Lib.hid (string_any w.heap.size (w.heap.size + 1) _ w4 p4.bld p4.bel.size)
  have P4 := Lib.hid p4
  clear p4
  go_wp2_with fail
  refine STR.out.mono ?_
  rintro e w5 ⟨rfl, _, b5, _⟩
  have B5 := Lib.hid b5
  clear b5
  go_wp2_with fail
  go_ret
  exact ⟨rfl, P4.out.bel.trans B5.out⟩
/-- A function that returns a text and an error's number. -/
def RT (l : List UInt8) (x : Int) (W : World) (e : Ending) (w' : World) : Prop := e = .returned (.tuple #[.string ⟨l.toArray⟩, .int .i64 x]) ∧ Below W.heap.size W w'
theorem chk_no {ns : List Nd} (h : docB ns = false) : chkI ns = 50 := by unfold chkI; rw [h]; rfl
theorem chk_yes {ns : List Nd} (h : docB ns = true) : chkI ns = 0 := by unfold chkI; rw [h]; rfl
theorem flat_no (v : Value) (ns : List Nd) (w : World) (h : NodesAt w v ns) (hn : ns.length ≤ 1000000) (hd : docB ns = false) : Calls Try.prog 12 #[v] w (RT [] 50 w) := by
  have C := Lib.hid (check_any v ns w h hn)
  rw [chk_no hd] at C
  clear hd h hn
  go_enter Try.func12, Try.ntmps12
  go_wp2_with fail
  refine C.out.mono ?_
  rintro e w1 ⟨rfl, b1⟩
  have B1 := Lib.hid b1
  clear b1
  go_wp2
  go_ret2
  exact ⟨rfl, B1.out⟩
theorem flat_yes (v : Value) (ns : List Nd) (f : F) (w : World) (h : NodesAt w v ns) (hf : IsDoc f ns) : Calls Try.prog 12 #[v] w (RT (flatT f) 0 w) := by
  have C := Lib.hid (check_any v ns w h (by have := hf.2.2.2.2.1; omega))
  rw [chk_yes hf.2.2.2.2.2] at C
  have L := Lib.hid (fun (W : World) (hW : Below w.heap.size w W) => layOut_any v ns f 0 true W (h.below hW) hf)
  rw [show layT 0 f 0 0 true = flatT f from lay_flat 0 f 0 0] at L
  clear h hf
  go_enter Try.func12, Try.ntmps12
  go_wp2_with fail
  refine C.out.mono ?_
  rintro e w1 ⟨rfl, b1⟩
  have B1 := Lib.hid b1
  clear b1
  go_wp2_with fail
  refine (L.out _ B1.out).mono ?_
  rintro e w2 ⟨rfl, b2⟩
  have B2 := Lib.hid b2
  clear b2
  go_wp2
  go_ret2
  exact ⟨rfl, B1.out.trans (B2.out.mono B1.out.size)⟩
theorem layout_no (v : Value) (ns : List Nd) (wd : Int) (w : World) (h : NodesAt w v ns) (hn : ns.length ≤ 1000000) (hd : docB ns = false) : Calls Try.prog 10 #[v, .int .i64 wd] w (RT [] 50 w) := by
  have C := Lib.hid (check_any v ns w h hn)
  rw [chk_no hd] at C
  clear hd h hn
  go_enter Try.func10, Try.ntmps10
  go_wp2_with fail
  refine C.out.mono ?_
  rintro e w1 ⟨rfl, b1⟩
  have B1 := Lib.hid b1
  clear b1
  go_wp2
  go_ret2
  exact ⟨rfl, B1.out⟩
theorem layout_width (v : Value) (ns : List Nd) (wd : Int) (w : World) (h : NodesAt w v ns) (hn : ns.length ≤ 1000000) (hd : docB ns = true) (hw : wd < 1 ∨ 1000 < wd) : Calls Try.prog 10 #[v, .int .i64 wd] w (RT [] 51 w) := by
  have C := Lib.hid (check_any v ns w h hn)
  rw [chk_yes hd] at C
  clear hd h hn
  by_cases h1 : wd < 1
  · clear hw
    go_enter Try.func10, Try.ntmps10
    go_wp2_with fail
    refine C.out.mono ?_
    rintro e w1 ⟨rfl, b1⟩
    have B1 := Lib.hid b1
    clear b1
    go_wp2
    go_ret2
    exact ⟨rfl, B1.out⟩
  · have h2 : 1000 < wd := by omega
    clear hw
    go_enter Try.func10, Try.ntmps10
    go_wp2_with fail
    refine C.out.mono ?_
    rintro e w1 ⟨rfl, b1⟩
    have B1 := Lib.hid b1
    clear b1
    go_wp2
    go_ret2
    exact ⟨rfl, B1.out⟩
theorem layout_yes (v : Value) (ns : List Nd) (f : F) (wd : Nat) (w : World) (h : NodesAt w v ns) (hf : IsDoc f ns) (h1 : 1 ≤ wd) (h2 : wd ≤ 1000) : Calls Try.prog 10 #[v, .int .i64 (wd : Int)] w (RT (layT wd f 0 0 false) 0 w) := by
  have C := Lib.hid (check_any v ns w h (by have := hf.2.2.2.2.1; omega))
  rw [chk_yes hf.2.2.2.2.2] at C
  have L := Lib.hid (fun (W : World) (hW : Below w.heap.size w W) => layOut_any v ns f wd false W (h.below hW) hf)
  clear h hf
  have g1 : decide ((wd : Int) < 1) = false := by simp; omega
  have g2 : decide ((1000 : Int) < (wd : Int)) = false := by simp; omega
  go_enter Try.func10, Try.ntmps10
  go_wp2_with fail
  refine C.out.mono ?_
  rintro e w1 ⟨rfl, b1⟩
  have B1 := Lib.hid b1
  clear b1
  go_wp2_with fail
  refine (L.out _ B1.out).mono ?_
  rintro e w2 ⟨rfl, b2⟩
  have B2 := Lib.hid b2
  clear b2
  go_wp2
  go_ret2
  exact ⟨rfl, B1.out.trans (B2.out.mono B1.out.size)⟩
end Go.Proofs.Ytbpenjdpalhmaaa
