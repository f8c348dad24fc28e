/- Texts of this seat, one behind the other: SynH, ParI. -/
import Derived.Test.YtggjckalmlploaaGreatDoorKn45
import Derived.Test.YtggjckalmlploaaGreatDoorKn29
import Derived.Test.YtggjckalmlploaaGreatDoorKn24
/- The contracts of check, Check, Pat and Names. -/
set_option maxRecDepth 100000
namespace Go.Proofs.YtggjckalmlploaaGreatDoor
open Go.RowKit Go.Proofs.TreeMath
theorem call50 (vs : Array Value) (w : World) : (callFunc 28 vs).run Tryz.prog w = .ok (.enter 28 vs) w := run_callFunc Tryz.func28 (by kernel_rfl) (by kernel_rfl) vs w
theorem call52 (vs : Array Value) (w : World) : (callFunc 30 vs).run Tryz.prog w = .ok (.enter 30 vs) w := run_callFunc Tryz.func30 (by kernel_rfl) (by kernel_rfl) vs w
def Tx (ns : List Nd) : Prop := ∀ n ∈ ns, n.text.size ≤ 1000
theorem getD_mem' {ns : List Nd} {i : Nat} (h : i < ns.length) : ns.getD i default ∈ ns := by
  rw [List.getD_eq_getElem?_getD, List.getElem?_eq_getElem h]
  exact List.getElem_mem h
theorem varsL_tx {ns : List Nd} (h : Tx ns) : ∀ s ∈ varsL ns, s.size ≤ 1000 := by
  intro s hs
  obtain ⟨n, hn, rfl⟩ := List.mem_map.1 hs
  exact h n (List.mem_filter.1 hn).1
theorem tx_sub {ns : List Nd} (h : Tx ns) (i m : Nat) : Tx ((ns.drop i).take m) := fun n hn => h n (List.mem_of_mem_drop (List.mem_of_mem_take hn))
/-- The closure that asks one node. -/
theorem check1_any (v : Value) (ns : List Nd) (bx : Nat) (i : Nat) (p : Int) (w : World) (h : NodesAt w v ns) (hx : w.cell? ⟨bx, 0, none⟩ = some v) (hn : ns.length ≤ 4000) (hW : wholeB (kk ns) = true) (ht : Tx ns) (hi : i < ns.length) :
    Calls Tryz.prog 28 (#[.int .i64 (i : Int), .int .i64 p] ++ #[.pointer (some ⟨bx, 0, none⟩)]) w (RI (see1 ns i p) w) := by
  obtain ⟨b, off, c, rfl, hnc, _, hb, hc⟩ := nodes_slice' h (by omega)
  have C := Lib.hid (fault_any b off c ns i p w (by omega) hnc hb hc hi (by
    intro h2
    have h0 := whole_sub (kk ns) hW i (by rw [length_kk]; exact hi)
    have := kid_few (kk ns) i h0
    rw [kk_get, h2, length_kk] at this
    omega) (ht _ (getD_mem' hi)))
  clear h hc hb hW ht
  show Calls Tryz.prog 28 #[.int .i64 (i : Int), .int .i64 p, .pointer (some ⟨bx, 0, none⟩)] w _
  go_enter Tryz.func28, Tryz.ntmps28
  go_wp2_with fail
  refine C.out.mono ?_
  rintro e w1 ⟨rfl, b1⟩
  have B1 := Lib.hid b1
  clear b1
  go_wp2_with fail
  go_ret
  exact ⟨rfl, B1.out⟩
/-- The closure that asks for names that are there twice. -/
theorem check2_any (v : Value) (ns : List Nd) (bx : Nat) (i : Nat) (p : Int) (w : World) (h : NodesAt w v ns) (hx : w.cell? ⟨bx, 0, none⟩ = some v) (hn : ns.length ≤ 4000) (hW : wholeB (kk ns) = true) (ht : Tx ns) (hi : i < ns.length) :
    Calls Tryz.prog 30 (#[.int .i64 (i : Int), .int .i64 p] ++ #[.pointer (some ⟨bx, 0, none⟩)]) w (RI (see2 ns i p) w) := by
  obtain ⟨vp, vc, hv⟩ : ∃ p c, v = .slice p ns.length c := by obtain ⟨_, p, c, hv, _⟩ := h; exact ⟨p, c, hv⟩
  have C := Lib.hid (variables_any v ns i w h (by omega) hi hW)
  have D := Lib.hid (fun (v' : Value) (W : World) (hv : StrsAt W v' (varsL ((ns.drop i).take ((fin (kk ns) i 1).toNat - i)))) => repeats_any v' _ W hv (by have := varsL_len ((ns.drop i).take ((fin (kk ns) i 1).toNat - i)); rw [List.length_take, List.length_drop] at this; omega) (varsL_tx (tx_sub ht _ _)))
  unfold see2 twE
  generalize varsL ((ns.drop i).take ((fin (kk ns) i 1).toNat - i)) = ss at *
  generalize dupB ss = x at *
  clear h hW ht
  subst hv
  show Calls Tryz.prog 30 #[.int .i64 (i : Int), .int .i64 p, .pointer (some ⟨bx, 0, none⟩)] w _
  by_cases hp : p = 1
  · subst hp
    cases x
    all_goals
      go_enter Tryz.func30, Tryz.ntmps30
      go_wp2_with fail
      refine C.out.mono ?_
      rintro e w1 ⟨v', rfl, h1, b1⟩
      have B1 := Lib.hid b1
      have H1 := Lib.hid h1
      obtain ⟨p1, c1, rfl⟩ := strs_form h1
      clear b1 h1
      go_wp2_with fail
      refine (D.out _ _ H1.out).mono ?_
      rintro e w2 ⟨rfl, b2⟩
      have B2 := Lib.hid (B1.out.trans (b2.mono B1.out.size))
      clear b2
      go_wp2_with fail
      go_ret
      exact ⟨rfl, B2.out⟩
  · have g : (p == 1) = false := by simpa using hp
    have e : (if p = 1 ∧ x = true then (63 : Int) else 0) = 0 := by simp [hp]
    rw [e]
    clear e hp C D
    go_enter Tryz.func30, Tryz.ntmps30
    go_wp2
    go_ret
    exact ⟨rfl, Below.refl _ _⟩
/-- What is none of these: no tree, or too great a one. -/
def badL (ns : List Nd) : Prop := 4000 < ns.length ∨ wholeB (kk ns) = false ∨ 100 < deepI (kk ns)
theorem deepI_zero (ks : List Int) (h : wholeB ks = false) : deepI ks = 0 := by simp [deepI, h]
theorem deep_pos (f : F) (h : f.cnt = 1) : 1 ≤ deepF f := by
  obtain ⟨n, k, rfl⟩ := one_of f h
  simp only [deepF]
  omega
set_option maxHeartbeats 1000000 in
theorem check_bad (v : Value) (ns : List Nd) (root : Int) (w : World) (h : NodesAt w v ns) (hn : ns.length ≤ 100000) (hB : badL ns) : Calls Tryz.prog 16 #[v, .int .i64 root] w (RI 60 w) := by
  obtain ⟨p, c, rfl⟩ : ∃ p c, v = .slice p ns.length c := by obtain ⟨_, p, c, hv, _⟩ := h; exact ⟨p, c, hv⟩
  have C := Lib.hid (fun W (hW : Below w.heap.size w W) => deep_any _ ns W (h.below hW) (by omega))
  obtain ⟨N, hN⟩ : ∃ N, N = ns.length := ⟨_, rfl⟩
  unfold badL at hB
  rw [← hN] at hB hn C ⊢
  clear h
  have bx : ∀ o, Below w.heap.size w (w.alloc o) := fun o => (Below.refl _ _).alloc (Nat.le_refl _) _
  have BX := Lib.hid bx
  clear bx
  by_cases h1 : 4000 < N
  · have h1' : decide ((4000 : Int) < (N : Int)) = true := by simp; omega
    clear hN hB h1
    go_enter Tryz.func16, Tryz.ntmps16
    go_wp2
    go_ret
    exact ⟨rfl, BX.out _⟩
  · have h1' : decide ((4000 : Int) < (N : Int)) = false := by simp; omega
    have hD : deepI (kk ns) = 0 ∨ 100 < deepI (kk ns) := by
      rcases hB with h | h | h
      · omega
      · exact .inl (deepI_zero _ h)
      · exact .inr h
    clear hN hB h1
    generalize deepI (kk ns) = D at *
    go_enter Tryz.func16, Tryz.ntmps16
    go_wp2_with fail
    refine (C.out _ (BX.out _)).mono ?_
    rintro e w1 ⟨y, rfl, rfl, b1⟩
    have B1 := Lib.hid ((BX.out _).trans (b1.mono (BX.out _).size))
    clear b1
    rcases hD with rfl | hD
    · go_wp2_with fail
      go_ret
      exact ⟨rfl, B1.out⟩
    · have g0 : ((D : Int) == 0) = false := by simp; omega
      have g1 : decide ((100 : Int) < (D : Int)) = true := by simp; omega
      clear hD
      go_wp2_with fail
      go_ret
      exact ⟨rfl, B1.out⟩
theorem box_new (w : World) (v : Value) (t : TypeId) : (w.alloc (.cells #[v] t)).cell? ⟨w.heap.size, 0, none⟩ = some v := by
  have h : (w.alloc (.cells #[v] t)).heap[w.heap.size]? = some (.cells #[v] t (0, 0)) := by
    show (w.heap.push _)[w.heap.size]? = _
    simp
  exact Lib.cell_of_heap h 0
set_option maxHeartbeats 1000000 in
theorem check_good (v : Value) (f : F) (root : Int) (w : World) (h : NodesAt w v f.flat) (hok : f.ok) (hcnt : f.cnt = 1) (hn : f.sz ≤ 4000) (hd : deepF f ≤ 100) (ht : Tx f.flat) (hr : 0 ≤ root ∧ root ≤ 2) :
    Calls Tryz.prog 16 #[v, .int .i64 root] w (RI (or_ (chkF f (fun _ => root) 0) (twF f (fun _ => root) 0)) w) := by
  have hlen := F.flat_length f
  have hW := whole_flat f hok hcnt
  have hp := deep_pos f hcnt
  have hdp := deep_flat f hok hcnt
  have e1 : visL (see1 f.flat) f.flat 0 [root] = chkF f (fun _ => root) 0 := by
    rw [vis_one _ f hok hcnt]
    exact see_one f.flat f hok [] [] _ _ (by simp)
  have e2 : visL (see2 f.flat) f.flat 0 [root] = twF f (fun _ => root) 0 := by
    rw [vis_one _ f hok hcnt]
    exact see_two f.flat f hok [] [] _ _ (by simp)
  obtain ⟨W0, hW0⟩ : ∃ W0, W0 = w.alloc (.cells #[v] 25) := ⟨_, rfl⟩
  have b0 : Below w.heap.size w W0 := by rw [hW0]; exact (Below.refl _ _).alloc (Nat.le_refl _) _
  have h0 : NodesAt W0 v f.flat := h.below b0
  have x0 : W0.cell? ⟨w.heap.size, 0, none⟩ = some v := by rw [hW0]; exact box_new _ _ _
  have s0 : w.heap.size < W0.heap.size := by rw [hW0]; simp
  have C := Lib.hid (fun W (hW' : Below W0.heap.size W0 W) => deep_any v f.flat W (h0.below hW') (by omega))
  rw [hdp] at C
  have V1 := Lib.hid (fun W (hW' : Below W0.heap.size W0 W) => visit_any v f.flat root 28 #[.pointer (some ⟨w.heap.size, 0, none⟩)] (see1 f.flat) W (h0.below hW') (by omega) hW hr call50 (fun W2 i p hW2 hi _ _ => check1_any v f.flat w.heap.size i p W2 ((h0.below hW').below hW2) ((hW'.trans (hW2.mono hW'.size)).cell (by exact s0) |>.trans x0) (by omega) hW ht hi))
  have V2 := Lib.hid (fun W (hW' : Below W0.heap.size W0 W) => visit_any v f.flat root 30 #[.pointer (some ⟨w.heap.size, 0, none⟩)] (see2 f.flat) W (h0.below hW') (by omega) hW hr call52 (fun W2 i p hW2 hi _ _ => check2_any v f.flat w.heap.size i p W2 ((h0.below hW').below hW2) ((hW'.trans (hW2.mono hW'.size)).cell (by exact s0) |>.trans x0) (by omega) hW ht hi))
  rw [e1] at V1
  rw [e2] at V2
  obtain ⟨vp, vc, rfl⟩ : ∃ p c, v = .slice p f.flat.length c := by obtain ⟨_, p, c, hv, _⟩ := h; exact ⟨p, c, hv⟩
  generalize chkF f (fun _ => root) 0 = E1 at *
  generalize twF f (fun _ => root) 0 = E2 at *
  generalize deepF f = D at *
  obtain ⟨M, hM⟩ : ∃ M, M = f.flat.length := ⟨_, rfl⟩
  rw [← hM] at x0 C V1 V2 hW0 ⊢
  have hM4 : M ≤ 4000 := by omega
  have m1 : decide ((4000 : Int) < (M : Int)) = false := by simp; omega
  have m2 : ((D : Int) == 0) = false := by simp; omega
  have m3 : decide ((100 : Int) < (D : Int)) = false := by simp; omega
  have B0 := Lib.hid b0
  have X0 := Lib.hid x0
  have S0 := Lib.hid s0
  have HW0 := Lib.hid hW0
  clear h hok hcnt hn hd ht hlen hW hp hdp e1 e2 h0 hM hM4 b0 x0 s0
  go_enter Tryz.func16, Tryz.ntmps16
  go_wp2_with fail
  rw [← hW0]
  clear hW0
  refine (C.out _ (Below.refl _ _)).mono ?_
  rintro e w1 ⟨y, rfl, rfl, b1⟩
  have B1 := Lib.hid b1
  have x1 := (b1.cell (p := ⟨w.heap.size, 0, none⟩) S0.out).trans X0.out
  clear b1
  go_wp2_with fail
  refine (V1.out _ B1.out).mono ?_
  rintro e w2 ⟨rfl, b2⟩
  have B2 := Lib.hid (B1.out.trans (b2.mono B1.out.size))
  have x2 := (B2.out.cell (p := ⟨w.heap.size, 0, none⟩) S0.out).trans X0.out
  clear b2 x1
  by_cases hE : E1 = 0
  · subst hE
    rw [zero_or]
    go_wp2_with fail
    refine (V2.out _ B2.out).mono ?_
    rintro e w3 ⟨rfl, b3⟩
    have B3 := Lib.hid (B2.out.trans (b3.mono B2.out.size))
    clear b3 x2
    go_wp2_with fail
    go_ret
    exact ⟨rfl, B0.out.trans (B3.out.mono B0.out.size)⟩
  · have e : or_ E1 E2 = E1 := by simp [or_, hE]
    have HE := Lib.hid e
    have hE1 : (E1 != 0) = true := by simpa using hE
    clear hE e
    go_wp2_with fail
    go_ret
    exact ⟨ret_i HE.out.symm, B0.out.trans (B2.out.mono B0.out.size)⟩
/-- Whether nodes are an expression (0) or a pattern (1). -/
theorem scheck_any (v : Value) (f : F) (root : Int) (w : World) (h : NodesAt w v f.flat) (hok : f.ok) (hcnt : f.cnt = 1) (hn : f.sz ≤ 100000) (ht : Tx f.flat) (hr : 0 ≤ root ∧ root ≤ 2) :
    Calls Tryz.prog 16 #[v, .int .i64 root] w (RI (synE f root) w) := by
  unfold synE
  by_cases hb : 4000 < f.sz ∨ 100 < deepF f
  · rw [if_pos hb]
    refine check_bad v f.flat root w h (by rw [F.flat_length]; exact hn) ?_
    unfold badL
    rw [F.flat_length, deep_flat f hok hcnt]
    rcases hb with hb | hb
    · exact .inl hb
    · exact .inr (.inr hb)
  · rw [if_neg hb]
    exact check_good v f root w h hok hcnt (by omega) (by omega) ht hr
/-- The program's answer, as a number. -/
def CheckIs (ns : List Nd) (root x : Int) : Prop := (wholeB (kk ns) = false ∧ x = 60) ∨ ∃ f : F, f.ok ∧ f.cnt = 1 ∧ f.flat = ns ∧ x = synE f root
theorem check_ex (ns : List Nd) (root : Int) : ∃ x, CheckIs ns root x := by
  cases h : wholeB (kk ns) with
  | false => exact ⟨60, .inl ⟨h, rfl⟩⟩
  | true =>
    obtain ⟨f, h1, h2, h3⟩ := doc_of ns h
    exact ⟨_, .inr ⟨f, h1, h2, h3, rfl⟩⟩
theorem pcheck_any (v : Value) (ns : List Nd) (root x : Int) (w : World) (h : NodesAt w v ns) (hn : ns.length ≤ 100000) (ht : Tx ns) (hr : 0 ≤ root ∧ root ≤ 2) (hx : CheckIs ns root x) : Calls Tryz.prog 16 #[v, .int .i64 root] w (RI x w) := by
  rcases hx with ⟨h1, rfl⟩ | ⟨f, h1, h2, rfl, rfl⟩
  · exact check_bad v ns root w h hn (.inr (.inl h1))
  · exact scheck_any v f root w h h1 h2 (by rw [← F.flat_length]; exact hn) ht hr
theorem Check_any (v : Value) (ns : List Nd) (x : Int) (w : World) (h : NodesAt w v ns) (hn : ns.length ≤ 100000) (ht : Tx ns) (hx : CheckIs ns 0 x) : Calls Tryz.prog 10 #[v] w (RI x w) := by
  have C := Lib.hid (pcheck_any v ns 0 x w h hn ht (by omega) hx)
  obtain ⟨vp, vc, rfl⟩ : ∃ p c, v = .slice p ns.length c := by obtain ⟨_, p, c, hv, _⟩ := h; exact ⟨p, c, hv⟩
  clear h hn ht hx
  go_enter Tryz.func10, Tryz.ntmps10
  go_wp2_with fail
  refine C.out.mono ?_
  rintro e w1 ⟨rfl, b1⟩
  have B1 := Lib.hid b1
  clear b1
  go_wp2_with fail
  go_ret
  exact ⟨rfl, B1.out⟩
end Go.Proofs.YtggjckalmlploaaGreatDoor
/- The parser: Tokens. -/
set_option maxRecDepth 100000
namespace Go.Proofs.YtggjckalmlploaaGreatDoor
open Go.Shelf Go.RowKit Go.Lib Go.Proofs.TreeMath Go.Proofs.LexMath Go.Proofs.FixMath Go.Proofs.ParMath
theorem slice_below {w w' : World} {size n : Nat} {v : Value} {cs : List Value} (h : SliceAt w size v n cs) (b : Below w.heap.size w w') : SliceAt w' size v n cs := SliceAt.below h b
theorem slice_lowed {w : World} {size n : Nat} {v : Value} {cs : List Value} (h : SliceAt w size v n cs) {p : Nat} (hp : w.heap.size ≤ p) : Low p v := fun b o m c e hm => by
  obtain ⟨_, q, cap, rfl, _, _, h4⟩ := h
  simp only [Value.slice.injEq] at e
  obtain ⟨b', o', e2, hb, _⟩ := h4 (by omega)
  rw [e.1] at e2
  simp only [Option.some.injEq, Addr.mk.injEq] at e2
  omega
theorem below_dn' {B : Nat} {w wr : World} (h : Below B w wr) (n : Nat) : Below B w (wr.drewN n) := ⟨h.os, h.tape, h.output, h.size, h.block⟩
/-- What Tokens answers: nodes, where, the error. -/
def tokensR (C : Cfg) (l : List Tok) (x : Int) : List Nd × Int × Int := if (topS C l).e = 0 then (if x = 0 then (topN C l, 0, 0) else ([], 0, 74)) else ([], (topS C l).at_, (topS C l).e)
/-- Three results. -/
def R3 (r : List Nd × Int × Int) (W : World) (e : Ending) (w' : World) : Prop := ∃ v, e = .returned (.tuple #[v, .int .i64 r.2.1, .int .i64 r.2.2]) ∧ NodesAt w' v r.1 ∧ Below W.heap.size W w'
set_option maxHeartbeats 8000000 in
theorem tokens_bad (tv fv : Value) (fin : Int) (fs : List Fx) (w : World) (hf : Lx.FixAt w fv fs) (hn : fs.length ≤ 1000000) (hs : Lx.Small fs) (hc : ¬ checkL Lx.rightF fs = 0) : Calls Tryz.prog 13 #[tv, .int .i64 fin, fv] w (R3 ([], 0, checkL Lx.rightF fs) w) := by
  have K := Lib.hid (Lx.check_any fv fs w hf hn hs)
  have hz : (checkL Lx.rightF fs == 0) = false := by rw [beq_eq_false_iff_ne]; exact hc
  obtain ⟨_, q, c, rfl, _⟩ := hf
  generalize checkL Lx.rightF fs = x at K hz ⊢
  have hz2 : (x != 0) = true := by simp [bne, hz]
  clear hc
  go_enter Tryz.func13, Tryz.ntmps13
  go_wp2_with fail
  refine K.out.mono ?_
  rintro e w1 ⟨rfl, hb⟩
  have B := Lib.hid hb
  clear hb
  go_wp2_with fail
  go_ret3
  exact ⟨_, rfl, nodes_nil _, B.out⟩
set_option maxHeartbeats 8000000 in
theorem tokens_ok (C : Cfg) (tv fv : Value) (l : List Tok) (w : World) (hT : Lx.ToksAt w tv l) (hf : Lx.FixAt w fv C.fs) (hn : C.fs.length ≤ 1000000) (hs : Lx.Small C.fs) (hc : checkL Lx.rightF C.fs = 0) (hl : Lim l) (htab : Tab w) (h1 : 1 < w.heap.size) (hRw : Rowed C)
    (x : Int) (hx : CheckIs (topN C l) 0 x) (hE : ∀ p s W, PS C p 0 s W → Calls Tryz.prog 17 #[.pointer (some ⟨p, 0, none⟩)] W (NP C p 0 ((epM C 100).1 s) W)) :
    Calls Tryz.prog 13 #[tv, .int .i64 C.fin, fv] w (R3 (tokensR C l x) w) := by
  have K := Lib.hid (Lx.check_any fv C.fs w hf hn hs)
  have hsz := (ep_sz (C := C) (L := 1000) hRw 100).1 (st0 l) hl.2
  have hgood := top_good C l
  obtain ⟨q, c, rfl⟩ : ∃ q c, tv = .slice q l.length c := by obtain ⟨_, q, c, e, _⟩ := hT; exact ⟨q, c, e⟩
  obtain ⟨q2, c2, rfl⟩ : ∃ q c, fv = .slice q C.fs.length c := by obtain ⟨_, q, c, e, _⟩ := hf; exact ⟨q, c, e⟩
  rw [hc] at K
  have HT : Hid (ToksA w (.slice q l.length c) l) := Lib.hid hT
  have HF : Hid (FixA w (.slice q2 C.fs.length c2) C.fs) := Lib.hid hf
  have TAB := Lib.hid htab
  have LIM := Lib.hid hl
  have HE := Lib.hid hE
  have HX := Lib.hid hx
  have HSZ := Lib.hid hsz
  obtain ⟨RR, hRR⟩ : ∃ RR, RR = tokensR C l x := ⟨_, rfl⟩
  rw [← hRR]
  have HRR := Lib.hid hRR
  clear hT hf hn hs hc hl htab hE hx hsz hgood hRR
  go_enter Tryz.func13, Tryz.ntmps13
  go_wp2_with fail
  refine K.out.mono ?_
  rintro e w1 ⟨rfl, hb⟩
  have B1 := Lib.hid hb
  have hs1 := hb.size
  have PP : PS C w1.heap.size 0 (st0 l) (w1.alloc (.cells #[.slice q l.length c, .int .i64 C.fin, .slice q2 C.fs.length c2, .int .i64 0, .int .i64 0, .int .i64 0] 53)) := by
    have hbl := lit_below w1 (.cells #[.slice q l.length c, .int .i64 C.fin, .slice q2 C.fs.length c2, .int .i64 0, .int .i64 0, .int .i64 0] 53)
    refine ⟨⟨_, _, heap_alloc_new w1 _, slice_below (slice_below HT.out hb) hbl, slice_below (slice_below HF.out hb) hbl, slice_lowed (slice_below HT.out hb) (Nat.le_refl _), slice_lowed (slice_below HF.out hb) (Nat.le_refl _)⟩, fun k hk => ?_, LIM.out, by omega⟩
    have := TAB.out k hk
    rw [hbl.cell (p := ⟨1, k, none⟩) (by show 1 < w1.heap.size; omega), hb.cell (p := ⟨1, k, none⟩) h1]
    exact this
  have EX := Lib.hid (HE.out _ _ _ PP)
  clear hb PP
  go_wp2_with fail
  refine EX.out.mono ?_
  rintro e w2 ⟨v, rfl, hv, hfr, hP, hB⟩
  obtain ⟨q3, n3, c3, rfl⟩ : ∃ q n c, v = .slice q n c := by obtain ⟨_, q, c, e, _⟩ := hv; exact ⟨q, _, c, e⟩
  have V2 := Lib.hid hv
  have P2 := Lib.hid hP
  have B2 := Lib.hid hB
  clear hv hfr hP hB
  obtain ⟨s2, hs2⟩ : ∃ s2, s2 = ((epM C 100).1 (st0 l)).2 := ⟨_, rfl⟩
  rw [← hs2] at P2
  have HS2 := Lib.hid hs2
  clear hs2
  have QB : Hid (Below w.heap.size w w2) := Lib.hid (B1.out.trans (((lit_below w1 _).trans (B2.out.low (by simp))).mono hs1))
  have FIN : Hid (∀ (W : World) (v : Value) (a b : Int) (ns : List Nd), RR = (ns, a, b) → NodesAt W v ns → Below w.heap.size w W → R3 RR w (.returned (.tuple #[v, .int .i64 a, .int .i64 b])) W) := Lib.hid fun W v a b ns e h1 h2 => by rw [e]; exact ⟨_, rfl, h1, h2⟩
  by_cases hr : s2.rest = []
  · obtain ⟨q4, c4, k0⟩ := P2.out.nil hr
    have TS : topS C l = s2 := by unfold topS; rw [← HS2.out, if_pos hr]
    have k4 := P2.out.c4
    have k5 := P2.out.c5
    by_cases he : s2.e = 0
    · rw [he] at k4
      have CK := Lib.hid (Check_any _ (topN C l) x w2 V2.out (by have h5 := HSZ.out.1; have h6 := LIM.out.1; show ((epM C 100).1 (st0 l)).1.length ≤ _; simp only [st0] at h5 ⊢; omega) (fun n hn => HSZ.out.2.1 n hn) HX.out)
      have RX : Hid (RR = if x = 0 then (topN C l, 0, 0) else ([], 0, 74)) := Lib.hid (by rw [HRR.out]; unfold tokensR; rw [TS, if_pos he])
      clear hr TS he
      go_wp2_with fail
      refine CK.out.mono ?_
      rintro e w3 ⟨rfl, hb3⟩
      have QB3 := Lib.hid (QB.out.trans (hb3.mono QB.out.size))
      have V3 := Lib.hid (NodesAt.below V2.out hb3)
      clear hb3
      by_cases hx0 : x = 0
      · have RX2 := Lib.hid (show RR = (topN C l, 0, 0) from by rw [RX.out, if_pos hx0])
        subst hx0
        go_wp2_with fail
        go_ret3
        exact FIN.out _ _ _ _ _ RX2.out V3.out QB3.out
      · have RX2 := Lib.hid (show RR = ([], 0, 74) from by rw [RX.out, if_neg hx0])
        have hz : (x == 0) = false := by rw [beq_eq_false_iff_ne]; exact hx0
        have hz2 : (x != 0) = true := by simp [bne, hz]
        clear hx0
        go_wp2_with fail
        go_ret3
        exact FIN.out _ _ _ _ _ RX2.out (nodes_nil _) QB3.out
    · have RX := Lib.hid (show RR = ([], s2.at_, s2.e) from by rw [HRR.out]; unfold tokensR; rw [TS, if_neg he])
      have hz : (s2.e == 0) = false := by rw [beq_eq_false_iff_ne]; exact he
      have hz2 : (s2.e != 0) = true := by simp [bne, hz]
      clear hr TS he
      go_wp2_with fail
      go_quiet (fail)
      go_wp2_with fail
      go_ret3
      exact FIN.out _ _ _ _ _ RX.out (nodes_nil _) ((QB.out.trans (below_dn' (Below.refl _ _) _)))
  · obtain ⟨t, r, hr2⟩ : ∃ t r, s2.rest = t :: r := by
      cases hq : s2.rest with
      | nil => exact absurd hq hr
      | cons t r => exact ⟨t, r, rfl⟩
    obtain ⟨b, off, c4, k0, _⟩ := P2.out.cons hr2
    have TS : topS C l = s2.fail (here C s2) 70 := by unfold topS; rw [← HS2.out, if_neg hr]
    have NE : ¬ (s2.fail (here C s2) 70).e = 0 := by
      unfold St.fail
      by_cases he : s2.e = 0
      · rw [if_pos he]; simp
      · rw [if_neg he]; exact he
    have RX := Lib.hid (show RR = ([], (s2.fail (here C s2) 70).at_, (s2.fail (here C s2) 70).e) from by rw [HRR.out]; unfold tokensR; rw [TS, if_neg NE])
    have HERE := Lib.hid (here_any C _ 0 s2 w2 P2.out)
    have FAIL := Lib.hid (fail_any C _ 0 s2 (here C s2) 70 w2 P2.out)
    have hlz : (0 : Int) < ((r.length + 1 : Nat) : Int) := by omega
    generalize s2.fail (here C s2) 70 = s3 at NE RX FAIL
    generalize here C s2 = hh at HERE FAIL
    have hz : (s3.e == 0) = false := by rw [beq_eq_false_iff_ne]; exact NE
    have hz2 : (s3.e != 0) = true := by simp [bne, hz]
    clear hr hr2 TS NE
    go_wp2_with fail
    refine HERE.out.mono ?_
    rintro e w3 ⟨rfl, rfl⟩
    go_wp2_with fail
    refine FAIL.out.mono ?_
    rintro e w4 ⟨rfl, hP4, hB4⟩
    have j4 := hP4.c4
    have j5 := hP4.c5
    have QB4 := Lib.hid (QB.out.trans ((hB4.low (Nat.le_of_lt P2.out.lt)).mono hs1))
    clear hP4 hB4 k0
    go_wp2_with fail
    go_quiet (fail)
    go_wp2_with fail
    go_ret3
    exact FIN.out _ _ _ _ _ RX.out (nodes_nil _) (QB4.out.trans (below_dn' (Below.refl _ _) _))
end Go.Proofs.YtggjckalmlploaaGreatDoor
