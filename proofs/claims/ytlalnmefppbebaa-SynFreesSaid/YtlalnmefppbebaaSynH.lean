/- The contracts of check, Check, Pat and Names. -/
import Derived.Test.YtlalnmefppbebaaSynG
namespace Go.Proofs.Ytlalnmefppbebaa
open Go.RowKit Go.Proofs.TreeMath
theorem call50 (vs : Array Value) (w : World) : (callFunc 50 vs).run Try.prog w = .ok (.enter 50 vs) w := run_callFunc Try.func50 (by kernel_rfl) (by kernel_rfl) vs w
theorem call52 (vs : Array Value) (w : World) : (callFunc 52 vs).run Try.prog w = .ok (.enter 52 vs) w := run_callFunc Try.func52 (by kernel_rfl) (by kernel_rfl) vs w
def Tx (ns : List Nd) : Prop := ∀ n ∈ ns, n.text.size ≤ 300
theorem getD_mem' {ns : List Nd} {i : Nat} (h : i < ns.length) : ns.getD i default ∈ ns := by
  rw [List.getD_eq_getElem?_getD, List.getElem?_eq_getElem h]
  exact List.getElem_mem h
theorem varsL_tx {ns : List Nd} (h : Tx ns) : ∀ s ∈ varsL ns, s.size ≤ 300 := by
  intro s hs
  obtain ⟨n, hn, rfl⟩ := List.mem_map.1 hs
  exact h n (List.mem_filter.1 hn).1
theorem tx_sub {ns : List Nd} (h : Tx ns) (i m : Nat) : Tx ((ns.drop i).take m) := fun n hn => h n (List.mem_of_mem_drop (List.mem_of_mem_take hn))
/-- The closure that asks one node. -/
theorem check1_any (v : Value) (ns : List Nd) (bx : Nat) (i : Nat) (p : Int) (w : World) (h : NodesAt w v ns) (hx : w.cell? ⟨bx, 0, none⟩ = some v) (hn : ns.length ≤ 4000) (hW : wholeB (kk ns) = true) (ht : Tx ns) (hi : i < ns.length) :
    Calls Try.prog 50 (#[.int .i64 (i : Int), .int .i64 p] ++ #[.pointer (some ⟨bx, 0, none⟩)]) w (RI (see1 ns i p) w) := by
  obtain ⟨b, off, c, rfl, hnc, _, hb, hc⟩ := nodes_slice' h (by omega)
  have C := Lib.hid (fault_any b off c ns i p w (by omega) hnc hb hc hi (by
    intro h2
    have h0 := whole_sub (kk ns) hW i (by rw [length_kk]; exact hi)
    have := kid_few (kk ns) i h0
    rw [kk_get, h2, length_kk] at this
    omega) (ht _ (getD_mem' hi)))
  clear h hc hb hW ht
  show Calls Try.prog 50 #[.int .i64 (i : Int), .int .i64 p, .pointer (some ⟨bx, 0, none⟩)] w _
  go_enter Try.func50, Try.ntmps50
  go_wp2_with fail
  refine C.out.mono ?_
  rintro e w1 ⟨rfl, b1⟩
  have B1 := Lib.hid b1
  clear b1
  go_wp2_with fail
  go_ret
  exact ⟨rfl, B1.out⟩
/-- The closure that asks for names that are there twice. -/
theorem check2_any (v : Value) (ns : List Nd) (bx : Nat) (i : Nat) (p : Int) (w : World) (h : NodesAt w v ns) (hx : w.cell? ⟨bx, 0, none⟩ = some v) (hn : ns.length ≤ 4000) (hW : wholeB (kk ns) = true) (ht : Tx ns) (hi : i < ns.length) :
    Calls Try.prog 52 (#[.int .i64 (i : Int), .int .i64 p] ++ #[.pointer (some ⟨bx, 0, none⟩)]) w (RI (see2 ns i p) w) := by
  obtain ⟨vp, vc, hv⟩ : ∃ p c, v = .slice p ns.length c := by obtain ⟨_, p, c, hv, _⟩ := h; exact ⟨p, c, hv⟩
  have C := Lib.hid (variables_any v ns i w h (by omega) hi hW)
  have D := Lib.hid (fun (v' : Value) (W : World) (hv : StrsAt W v' (varsL ((ns.drop i).take ((fin (kk ns) i 1).toNat - i)))) => repeats_any v' _ W hv (by have := varsL_len ((ns.drop i).take ((fin (kk ns) i 1).toNat - i)); rw [List.length_take, List.length_drop] at this; omega) (varsL_tx (tx_sub ht _ _)))
  unfold see2 twE
  generalize varsL ((ns.drop i).take ((fin (kk ns) i 1).toNat - i)) = ss at *
  generalize dupB ss = x at *
  clear h hW ht
  subst hv
  show Calls Try.prog 52 #[.int .i64 (i : Int), .int .i64 p, .pointer (some ⟨bx, 0, none⟩)] w _
  by_cases hp : p = 1
  · subst hp
    cases x
    all_goals
      go_enter Try.func52, Try.ntmps52
      go_wp2_with fail
      refine C.out.mono ?_
      rintro e w1 ⟨v', rfl, h1, b1⟩
      have B1 := Lib.hid b1
      have H1 := Lib.hid h1
      obtain ⟨p1, c1, rfl⟩ := strs_form h1
      clear b1 h1
      go_wp2_with fail
      refine (D.out _ _ H1.out).mono ?_
      rintro e w2 ⟨rfl, b2⟩
      have B2 := Lib.hid (B1.out.trans (b2.mono B1.out.size))
      clear b2
      go_wp2_with fail
      go_ret
      exact ⟨rfl, B2.out⟩
  · have g : (p == 1) = false := by simpa using hp
    have e : (if p = 1 ∧ x = true then (63 : Int) else 0) = 0 := by simp [hp]
    rw [e]
    clear e hp C D
    go_enter Try.func52, Try.ntmps52
    go_wp2
    go_ret
    exact ⟨rfl, Below.refl _ _⟩
/-- What is none of these: no tree, or too great a one. -/
def badL (ns : List Nd) : Prop := 4000 < ns.length ∨ wholeB (kk ns) = false ∨ 100 < deepI (kk ns)
theorem deepI_zero (ks : List Int) (h : wholeB ks = false) : deepI ks = 0 := by simp [deepI, h]
theorem deep_pos (f : F) (h : f.cnt = 1) : 1 ≤ deepF f := by
  obtain ⟨n, k, rfl⟩ := one_of f h
  simp only [deepF]
  omega
set_option maxHeartbeats 1000000 in
theorem check_bad (v : Value) (ns : List Nd) (root : Int) (w : World) (h : NodesAt w v ns) (hn : ns.length ≤ 100000) (hB : badL ns) : Calls Try.prog 32 #[v, .int .i64 root] w (RI 60 w) := by
  obtain ⟨p, c, rfl⟩ : ∃ p c, v = .slice p ns.length c := by obtain ⟨_, p, c, hv, _⟩ := h; exact ⟨p, c, hv⟩
  have C := Lib.hid (fun W (hW : Below w.heap.size w W) => deep_any _ ns W (h.below hW) (by omega))
  obtain ⟨N, hN⟩ : ∃ N, N = ns.length := ⟨_, rfl⟩
  unfold badL at hB
  rw [← hN] at hB hn C ⊢
  clear h
  have bx : ∀ o, Below w.heap.size w (w.alloc o) := fun o => (Below.refl _ _).alloc (Nat.le_refl _) _
  have BX := Lib.hid bx
  clear bx
  by_cases h1 : 4000 < N
  · have h1' : decide ((4000 : Int) < (N : Int)) = true := by simp; omega
    clear hN hB h1
    go_enter Try.func32, Try.ntmps32
    go_wp2
    go_ret
    exact ⟨rfl, BX.out _⟩
  · have h1' : decide ((4000 : Int) < (N : Int)) = false := by simp; omega
    have hD : deepI (kk ns) = 0 ∨ 100 < deepI (kk ns) := by
      rcases hB with h | h | h
      · omega
      · exact .inl (deepI_zero _ h)
      · exact .inr h
    clear hN hB h1
    generalize deepI (kk ns) = D at *
    go_enter Try.func32, Try.ntmps32
    go_wp2_with fail
    refine (C.out _ (BX.out _)).mono ?_
    rintro e w1 ⟨y, rfl, rfl, b1⟩
    have B1 := Lib.hid ((BX.out _).trans (b1.mono (BX.out _).size))
    clear b1
    rcases hD with rfl | hD
    · go_wp2_with fail
      go_ret
      exact ⟨rfl, B1.out⟩
    · have g0 : ((D : Int) == 0) = false := by simp; omega
      have g1 : decide ((100 : Int) < (D : Int)) = true := by simp; omega
      clear hD
      go_wp2_with fail
      go_ret
      exact ⟨rfl, B1.out⟩
theorem box_new (w : World) (v : Value) (t : TypeId) : (w.alloc (.cells #[v] t)).cell? ⟨w.heap.size, 0, none⟩ = some v := by
  have h : (w.alloc (.cells #[v] t)).heap[w.heap.size]? = some (.cells #[v] t (0, 0)) := by
    show (w.heap.push _)[w.heap.size]? = _
    simp
  exact Lib.cell_of_heap h 0
set_option maxHeartbeats 1000000 in
theorem check_good (v : Value) (f : F) (root : Int) (w : World) (h : NodesAt w v f.flat) (hok : f.ok) (hcnt : f.cnt = 1) (hn : f.sz ≤ 4000) (hd : deepF f ≤ 100) (ht : Tx f.flat) (hr : 0 ≤ root ∧ root ≤ 2) :
    Calls Try.prog 32 #[v, .int .i64 root] w (RI (or_ (chkF f (fun _ => root) 0) (twF f (fun _ => root) 0)) w) := by
  have hlen := F.flat_length f
  have hW := whole_flat f hok hcnt
  have hp := deep_pos f hcnt
  have hdp := deep_flat f hok hcnt
  have e1 : visL (see1 f.flat) f.flat 0 [root] = chkF f (fun _ => root) 0 := by
    rw [vis_one _ f hok hcnt]
    exact see_one f.flat f hok [] [] _ _ (by simp)
  have e2 : visL (see2 f.flat) f.flat 0 [root] = twF f (fun _ => root) 0 := by
    rw [vis_one _ f hok hcnt]
    exact see_two f.flat f hok [] [] _ _ (by simp)
  obtain ⟨W0, hW0⟩ : ∃ W0, W0 = w.alloc (.cells #[v] 22) := ⟨_, rfl⟩
  have b0 : Below w.heap.size w W0 := by rw [hW0]; exact (Below.refl _ _).alloc (Nat.le_refl _) _
  have h0 : NodesAt W0 v f.flat := h.below b0
  have x0 : W0.cell? ⟨w.heap.size, 0, none⟩ = some v := by rw [hW0]; exact box_new _ _ _
  have s0 : w.heap.size < W0.heap.size := by rw [hW0]; simp
  have C := Lib.hid (fun W (hW' : Below W0.heap.size W0 W) => deep_any v f.flat W (h0.below hW') (by omega))
  rw [hdp] at C
  have V1 := Lib.hid (fun W (hW' : Below W0.heap.size W0 W) => visit_any v f.flat root 50 #[.pointer (some ⟨w.heap.size, 0, none⟩)] (see1 f.flat) W (h0.below hW') (by omega) hW hr call50 (fun W2 i p hW2 hi _ _ => check1_any v f.flat w.heap.size i p W2 ((h0.below hW').below hW2) ((hW'.trans (hW2.mono hW'.size)).cell (by exact s0) |>.trans x0) (by omega) hW ht hi))
  have V2 := Lib.hid (fun W (hW' : Below W0.heap.size W0 W) => visit_any v f.flat root 52 #[.pointer (some ⟨w.heap.size, 0, none⟩)] (see2 f.flat) W (h0.below hW') (by omega) hW hr call52 (fun W2 i p hW2 hi _ _ => check2_any v f.flat w.heap.size i p W2 ((h0.below hW').below hW2) ((hW'.trans (hW2.mono hW'.size)).cell (by exact s0) |>.trans x0) (by omega) hW ht hi))
  rw [e1] at V1
  rw [e2] at V2
  obtain ⟨vp, vc, rfl⟩ : ∃ p c, v = .slice p f.flat.length c := by obtain ⟨_, p, c, hv, _⟩ := h; exact ⟨p, c, hv⟩
  generalize chkF f (fun _ => root) 0 = E1 at *
  generalize twF f (fun _ => root) 0 = E2 at *
  generalize deepF f = D at *
  obtain ⟨M, hM⟩ : ∃ M, M = f.flat.length := ⟨_, rfl⟩
  rw [← hM] at x0 C V1 V2 hW0 ⊢
  have hM4 : M ≤ 4000 := by omega
  have m1 : decide ((4000 : Int) < (M : Int)) = false := by simp; omega
  have m2 : ((D : Int) == 0) = false := by simp; omega
  have m3 : decide ((100 : Int) < (D : Int)) = false := by simp; omega
  have B0 := Lib.hid b0
  have X0 := Lib.hid x0
  have S0 := Lib.hid s0
  have HW0 := Lib.hid hW0
  clear h hok hcnt hn hd ht hlen hW hp hdp e1 e2 h0 hM hM4 b0 x0 s0
  go_enter Try.func32, Try.ntmps32
  go_wp2_with fail
  rw [← hW0]
  clear hW0
  refine (C.out _ (Below.refl _ _)).mono ?_
  rintro e w1 ⟨y, rfl, rfl, b1⟩
  have B1 := Lib.hid b1
  have x1 := (b1.cell (p := ⟨w.heap.size, 0, none⟩) S0.out).trans X0.out
  clear b1
  go_wp2_with fail
  refine (V1.out _ B1.out).mono ?_
  rintro e w2 ⟨rfl, b2⟩
  have B2 := Lib.hid (B1.out.trans (b2.mono B1.out.size))
  have x2 := (B2.out.cell (p := ⟨w.heap.size, 0, none⟩) S0.out).trans X0.out
  clear b2 x1
  by_cases hE : E1 = 0
  · subst hE
    rw [zero_or]
    go_wp2_with fail
    refine (V2.out _ B2.out).mono ?_
    rintro e w3 ⟨rfl, b3⟩
    have B3 := Lib.hid (B2.out.trans (b3.mono B2.out.size))
    clear b3 x2
    go_wp2_with fail
    go_ret
    exact ⟨rfl, B0.out.trans (B3.out.mono B0.out.size)⟩
  · have e : or_ E1 E2 = E1 := by simp [or_, hE]
    have HE := Lib.hid e
    have hE1 : (E1 != 0) = true := by simpa using hE
    clear hE e
    go_wp2_with fail
    go_ret
    exact ⟨ret_i HE.out.symm, B0.out.trans (B2.out.mono B0.out.size)⟩
/-- Whether nodes are an expression (0) or a pattern (1). -/
theorem scheck_any (v : Value) (f : F) (root : Int) (w : World) (h : NodesAt w v f.flat) (hok : f.ok) (hcnt : f.cnt = 1) (hn : f.sz ≤ 100000) (ht : Tx f.flat) (hr : 0 ≤ root ∧ root ≤ 2) :
    Calls Try.prog 32 #[v, .int .i64 root] w (RI (synE f root) w) := by
  unfold synE
  by_cases hb : 4000 < f.sz ∨ 100 < deepF f
  · rw [if_pos hb]
    refine check_bad v f.flat root w h (by rw [F.flat_length]; exact hn) ?_
    unfold badL
    rw [F.flat_length, deep_flat f hok hcnt]
    rcases hb with hb | hb
    · exact .inl hb
    · exact .inr (.inr hb)
  · rw [if_neg hb]
    exact check_good v f root w h hok hcnt (by omega) (by omega) ht hr
/-- The program's answer, as a number. -/
def CheckIs (ns : List Nd) (root x : Int) : Prop := (wholeB (kk ns) = false ∧ x = 60) ∨ ∃ f : F, f.ok ∧ f.cnt = 1 ∧ f.flat = ns ∧ x = synE f root
theorem check_ex (ns : List Nd) (root : Int) : ∃ x, CheckIs ns root x := by
  cases h : wholeB (kk ns) with
  | false => exact ⟨60, .inl ⟨h, rfl⟩⟩
  | true =>
    obtain ⟨f, h1, h2, h3⟩ := doc_of ns h
    exact ⟨_, .inr ⟨f, h1, h2, h3, rfl⟩⟩
theorem pcheck_any (v : Value) (ns : List Nd) (root x : Int) (w : World) (h : NodesAt w v ns) (hn : ns.length ≤ 100000) (ht : Tx ns) (hr : 0 ≤ root ∧ root ≤ 2) (hx : CheckIs ns root x) : Calls Try.prog 32 #[v, .int .i64 root] w (RI x w) := by
  rcases hx with ⟨h1, rfl⟩ | ⟨f, h1, h2, rfl, rfl⟩
  · exact check_bad v ns root w h hn (.inr (.inl h1))
  · exact scheck_any v f root w h h1 h2 (by rw [← F.flat_length]; exact hn) ht hr
theorem Check_any (v : Value) (ns : List Nd) (x : Int) (w : World) (h : NodesAt w v ns) (hn : ns.length ≤ 100000) (ht : Tx ns) (hx : CheckIs ns 0 x) : Calls Try.prog 11 #[v] w (RI x w) := by
  have C := Lib.hid (pcheck_any v ns 0 x w h hn ht (by omega) hx)
  obtain ⟨vp, vc, rfl⟩ : ∃ p c, v = .slice p ns.length c := by obtain ⟨_, p, c, hv, _⟩ := h; exact ⟨p, c, hv⟩
  clear h hn ht hx
  go_enter Try.func11, Try.ntmps11
  go_wp2_with fail
  refine C.out.mono ?_
  rintro e w1 ⟨rfl, b1⟩
  have B1 := Lib.hid b1
  clear b1
  go_wp2_with fail
  go_ret
  exact ⟨rfl, B1.out⟩
theorem Pat_any (v : Value) (ns : List Nd) (x : Int) (w : World) (h : NodesAt w v ns) (hn : ns.length ≤ 100000) (ht : Tx ns) (hx : CheckIs ns 1 x) : Calls Try.prog 14 #[v] w (RI x w) := by
  have C := Lib.hid (pcheck_any v ns 1 x w h hn ht (by omega) hx)
  obtain ⟨vp, vc, rfl⟩ : ∃ p c, v = .slice p ns.length c := by obtain ⟨_, p, c, hv, _⟩ := h; exact ⟨p, c, hv⟩
  clear h hn ht hx
  go_enter Try.func14, Try.ntmps14
  go_wp2_with fail
  refine C.out.mono ?_
  rintro e w1 ⟨rfl, b1⟩
  have B1 := Lib.hid b1
  clear b1
  go_wp2_with fail
  go_ret
  exact ⟨rfl, B1.out⟩
/-- A pattern's names, or none. -/
def NamesIs (ns : List Nd) (ss : List ByteArray) : Prop := ∃ x, CheckIs ns 1 x ∧ ss = if x = 0 then varsL ns else []
theorem Names_any (v : Value) (ns : List Nd) (ss : List ByteArray) (w : World) (h : NodesAt w v ns) (hn : ns.length ≤ 100000) (ht : Tx ns) (hx : NamesIs ns ss) : Calls Try.prog 20 #[v] w (SRet ss w) := by
  obtain ⟨x, hx, rfl⟩ := hx
  have C := Lib.hid (fun W (hW : Below w.heap.size w W) => Pat_any v ns x W (h.below hW) hn ht hx)
  have D : x = 0 → Hid (∀ W, Below w.heap.size w W → Calls Try.prog 40 #[v, .int .i64 0] W (SRet (varsL ns) W)) := by
    intro h0
    refine Lib.hid fun W hW => ?_
    rcases hx with ⟨_, rfl⟩ | ⟨f, h1, h2, h3, _⟩
    · cases h0
    · have hw := whole_flat f h1 h2
      rw [h3] at hw
      have hp := wholeB_pos _ hw
      rw [length_kk] at hp
      have := variables_any v ns 0 W (h.below hW) hn hp hw
      rw [whole_fin _ hw] at this
      simpa [length_kk] using this
  obtain ⟨vp, vc, rfl⟩ : ∃ p c, v = .slice p ns.length c := by obtain ⟨_, p, c, hv, _⟩ := h; exact ⟨p, c, hv⟩
  clear h hn ht hx
  by_cases h0 : x = 0
  · have DD := D h0
    subst h0
    rw [if_pos rfl]
    clear D
    go_enter Try.func20, Try.ntmps20
    go_wp2_with fail
    refine (C.out _ (Below.refl _ _)).mono ?_
    rintro e w1 ⟨rfl, b1⟩
    have B1 := Lib.hid b1
    clear b1
    go_wp2_with fail
    refine (DD.out _ B1.out).mono ?_
    rintro e w2 ⟨v', rfl, h2, b2⟩
    have B2 := Lib.hid (B1.out.trans (b2.mono B1.out.size))
    have H2 := Lib.hid h2
    clear b2 h2
    go_wp2_with fail
    go_ret
    exact ⟨_, rfl, H2.out, B2.out⟩
  · rw [if_neg h0]
    have g : (x != 0) = true := by simpa using h0
    clear D h0
    go_enter Try.func20, Try.ntmps20
    go_wp2_with fail
    refine (C.out _ (Below.refl _ _)).mono ?_
    rintro e w1 ⟨rfl, b1⟩
    have B1 := Lib.hid b1
    clear b1
    go_wp2_with fail
    go_ret
    exact ⟨_, rfl, StrsAt.nil _, B1.out⟩
end Go.Proofs.Ytlalnmefppbebaa
