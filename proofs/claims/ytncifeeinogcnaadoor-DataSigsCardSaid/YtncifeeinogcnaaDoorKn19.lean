/- Texts of this seat, one behind the other: DaJ. -/
import Derived.Test.YtncifeeinogcnaaDoorKn18
/- What is not declared: the map of declared types. -/
set_option maxRecDepth 100000
namespace Go.Proofs.YtncifeeinogcnaaDoor
open Go.Shelf Go.RowKit Go.Lib Go.Sort Go.Maps Go.WideShapes Go.Proofs.TreeMath Go.Proofs.LexMath

abbrev Env := ByteArray → Option Int
def setE (f : Env) (t : ByteArray) (p : Int) : Env := fun s => if t = s then some p else f s
/-- What is built in. -/
def env0 : Env := setE (setE (setE (setE (fun _ => none) sArrow 2) sInt 0) sText 0) sRef 1
/-- How many kids each type has. -/
def envD (ds : List Dt) : Env := ds.foldl (fun f d => setE f d.name d.params) env0
theorem envD_take (ds : List Dt) (i : Nat) (hi : i < ds.length) : envD (ds.take (i + 1)) = setE (envD (ds.take i)) (ds.getD i default).name (ds.getD i default).params := by
  unfold envD
  rw [List.take_succ_eq_append_getElem hi, List.foldl_append, List.getD_eq_getElem?_getD, List.getElem?_eq_getElem hi]
  rfl
def MapIs (W : World) (b n : Nat) (f : Env) : Prop := ∃ D : DM, W.ownsMap Tryd.prog 9 (plainElem Tryd.prog 3) b n D ∧ ∀ s, has D (litS s) = (f s).isSome ∧ D.atKey (litS s) (.lit (.int .i64 0)) = .lit (.int .i64 ((f s).getD 0))
theorem MapIs.of_block {W W' : World} {b n : Nat} {f : Env} (h : MapIs W b n f) (e : W'.heap[b]? = W.heap[b]?) : MapIs W' b n f := by
  obtain ⟨D, ⟨es, clock, hb, r⟩, h2⟩ := h
  exact ⟨D, ⟨es, clock, e.trans hb, r⟩, h2⟩
theorem MapIs.lt {W : World} {b n : Nat} {f : Env} (h : MapIs W b n f) : b < W.heap.size := by
  obtain ⟨D, h1, _⟩ := h
  exact h1.lt
theorem MapIs.below {W W' : World} {b n : Nat} {f : Env} (h : MapIs W b n f) (e : Below W.heap.size W W') : MapIs W' b n f := h.of_block (e.block b h.lt)
theorem MapIs.made (w : World) : MapIs (w.alloc (.map #[] 0)) w.heap.size 0 (fun _ => none) := ⟨_, World.ownsMap_made _ _ _ _, fun _ => ⟨rfl, rfl⟩⟩
theorem MapIs.set_put {D : DM} {b : Nat} {f : Env} {W' : World} {m : Nat} (hD : IsMap D) (h : ∀ s, has D (litS s) = (f s).isSome ∧ D.atKey (litS s) (.lit (.int .i64 0)) = .lit (.int .i64 ((f s).getD 0))) (t : ByteArray) (p : Int)
    (hW : W'.ownsMap Tryd.prog 9 (plainElem Tryd.prog 3) b m (D.put (litS t) (.lit (.int .i64 p)))) : MapIs W' b m (setE f t p) := by
  refine ⟨_, hW, fun s => ?_⟩
  unfold setE
  by_cases e : t = s
  · subst e
    rw [if_pos rfl, has_put_same hD (litS_key _), atKey_put_same hD (litS_key _)]
    exact ⟨rfl, rfl⟩
  · rw [if_neg e, has_put_other (fun e2 => e (litS_inj e2).symm), atKey_put_other (fun e2 => e (litS_inj e2).symm)]
    exact h s
theorem i64_wf (p : Int) (h0 : -9223372036854775808 ≤ p) (h1 : p ≤ 9223372036854775807) : (Lit.int IntKind.i64 p).wf = true := by
  simp only [Lit.wf, Bool.and_eq_true, decide_eq_true_eq]
  exact ⟨h0, h1⟩
theorem MapIs.upd {W : World} {n b : Nat} {f : Env} (h : MapIs W b n f) (s : ByteArray) (p : Int) (hs : s.size ≤ 1000000) (h0 : -9223372036854775808 ≤ p) (h1 : p ≤ 9223372036854775807) (hn : n ≤ 100000) :
    ∃ W1, (Instr.mapUpdate 90 (.map (some b)) (.string s) (.int .i64 p)).run Tryd.prog W = .ok () W1 ∧ MapIs W1 b (n + 1) (setE f s p) ∧ W.grownBy W1 (some b) := by
  obtain ⟨D, hD, hf⟩ := h
  obtain ⟨W1, r, o, g⟩ := hD.update law9s Tryd.underlying90 (by unfold maxLen; omega) (keyS s hs) (plainElem_int Tryd.underlying3 (i64_wf p h0 h1))
  exact ⟨W1, r, MapIs.set_put hD.isMap hf s p o, g⟩
theorem zero3v (w : World) : (zeroValue 3).run Tryd.prog w = .ok (.int .i64 0) w := by kernel_rfl
theorem MapIs.look {W : World} {n b : Nat} {f : Env} (h : MapIs W b n f) (s : ByteArray) (hs : s.size ≤ 1000000) : (Instr.lookup 90 (.map (some b)) (.string s) true).run Tryd.prog W = .ok (.tuple #[.int .i64 ((f s).getD 0), .bool (f s).isSome]) W := by
  obtain ⟨D, hD, hf⟩ := h
  obtain ⟨v, ps, r, hv⟩ := hD.look_ok law9s Tryd.underlying90 (zero3v W) (zd := .lit (.int .i64 0)) (zp := []) (plainElem_int Tryd.underlying3 (by decide)) (keyS s hs)
  obtain ⟨a, rfl, hz, _⟩ := plainElem_int_inv Tryd.underlying3 hv
  rw [(hf s).2] at hz
  simp only [Prod.mk.injEq, DataW.lit.injEq, Lit.int.injEq] at hz
  rw [(hf s).1] at r
  rw [hz.1.2]
  exact r
/-- A type that is not declared like that. -/
def forP (f : Env) (n : Nd) : Bool := decide (n.kind = 32) && (!(f n.text).isSome || decide ((f n.text).getD 0 ≠ n.kids))
theorem for_any (n : Nd) (f : Env) (bx m cnt : Nat) (w W : World) (hb : bx < W.heap.size) (hc : W.cell? ⟨bx, 0, none⟩ = some (.map (some m))) (hm : MapIs W m cnt f) (hs : n.text.size ≤ 1000000) (hW : Below W.heap.size W w) : Calls Tryd.prog 53 #[n.val, .pointer (some ⟨bx, 0, none⟩)] w (BRw (forP f n) w) := by
  obtain ⟨k, s, nm, c⟩ := n
  simp only at hs
  have BA : Hid (Below w.heap.size w (w.alloc (.cells #[.int .i64 k, .string s, .int .i64 nm, .int .i64 c] 42))) := Lib.hid ((Below.refl _ _).alloc (Nat.le_refl _) _)
  have c0 : (w.alloc (.cells #[.int .i64 k, .string s, .int .i64 nm, .int .i64 c] 42)).cell? ⟨bx, 0, none⟩ = some (.map (some m)) := ((hW.trans (BA.out.mono hW.size)).cell (p := ⟨bx, 0, none⟩) hb).trans hc
  have L := ((hm.below hW).below BA.out).look s hs
  have E : Hid (∀ w' y, forP f ⟨k, s, nm, c⟩ = y → Below w.heap.size w w' → BRw (forP f ⟨k, s, nm, c⟩) w (.returned (.bool y)) w') := Lib.hid fun w' y e h => ⟨by rw [e], h⟩
  have R : Hid (forP f ⟨k, s, nm, c⟩ = (decide (k = 32) && (!(f s).isSome || decide ((f s).getD 0 ≠ c)))) := Lib.hid rfl
  generalize BRw (forP f ⟨k, s, nm, c⟩) w = Z at E ⊢
  generalize forP f ⟨k, s, nm, c⟩ = z at E R
  obtain ⟨p, hp⟩ : ∃ p, p = (f s).getD 0 := ⟨_, rfl⟩
  obtain ⟨q, hq⟩ : ∃ q, q = (f s).isSome := ⟨_, rfl⟩
  rw [← hp, ← hq] at L R
  have hbw := Nat.lt_of_lt_of_le hb hW.size
  unfold Nd.val
  clear hp hq hm hW hc hb
  simp only
  go_enter Tryd.func53, Tryd.ntmps53
  go_wp2
  all_goals (first | go_ret | skip)
  all_goals exact E.out _ _ (by rw [R.out]; by_cases hpc : p = c <;> simp [*]) ((Below.refl _ _).alloc (Nat.le_refl _) _)
theorem box_keep {W : World} (o : Obj) : Below W.heap.size W (W.alloc o) := (Below.refl _ _).alloc (Nat.le_refl _) _
/-- A constructor in whose parts a type is not declared. -/
theorem lack2_any (d : Dt) (c : Ct) (f : Env) (fx bx m cnt : Nat) (w W : World) (hd : ∃ q k, d.cv = .slice q d.cons.length k) (hl : ListsAt W c.av c.args) (hb : bx < W.heap.size) (hf : fx < W.heap.size) (hcf : W.cell? ⟨fx, 0, none⟩ = some (.func (.func 53) #[] #[.pointer (some ⟨bx, 0, none⟩)])) (hc : W.cell? ⟨bx, 0, none⟩ = some (.map (some m))) (hm : MapIs W m cnt f) (hs : ∀ t ∈ c.args, ∀ n ∈ t, n.text.size ≤ 1000000) (hW : Below W.heap.size W w) :
    Calls Tryd.prog 54 #[d.val, c.val, .pointer (some ⟨fx, 0, none⟩)] w (BRw (hasP (forP f) c) w) := by
  obtain ⟨q, k, ed⟩ := hd
  obtain ⟨dn, dp, dv, dcs⟩ := d
  simp only at ed
  subst ed
  obtain ⟨q2, k2, ec⟩ := hl.form
  obtain ⟨cn, cav, cas⟩ := c
  simp only at hl ec hs
  subst ec
  obtain ⟨k1, hk1⟩ : ∃ k1, k1 = dcs.length := ⟨_, rfl⟩
  obtain ⟨k3, hk3⟩ : ∃ k3, k3 = cas.length := ⟨_, rfl⟩
  obtain ⟨w2, hw2⟩ : ∃ w2, w2 = (w.alloc (.cells #[.string dn, .int .i64 dp, .slice q dcs.length k] 30)).alloc (.cells #[.string cn, .slice q2 cas.length k2] 33) := ⟨_, rfl⟩
  have B2 : Below w.heap.size w w2 := by rw [hw2]; exact ((Below.refl _ _).alloc (Nat.le_refl _) _).alloc (by simp) _
  have BW := hW.trans (B2.mono hW.size)
  have C := Lib.hid (has_any ⟨cn, .slice q2 cas.length k2, cas⟩ 53 #[.pointer (some ⟨bx, 0, none⟩)] (enters 53 _ Tryd.func53 (by kernel_rfl) (by kernel_rfl)) (forP f) w2 (hl.below BW) (Lib.hid fun t ht n hn W' hW' => for_any n f bx m cnt W' W hb hc hm (hs t ht n hn) (BW.trans (hW'.mono BW.size))))
  have x1 := (hW.cell (p := ⟨fx, 0, none⟩) hf).trans hcf
  have E : Hid (∀ e w', BRw (hasP (forP f) ⟨cn, .slice q2 cas.length k2, cas⟩) w2 e w' → BRw (hasP (forP f) ⟨cn, .slice q2 cas.length k2, cas⟩) w e w') := Lib.hid fun e w' h => ⟨h.1, B2.trans (h.2.mono B2.size)⟩
  have FM : Hid (∀ e w', BRw (hasP (forP f) ⟨cn, .slice q2 cas.length k2, cas⟩) w2 e w' → ∃ y, e = .returned (.bool y)) := Lib.hid fun e w' h => ⟨_, h.1⟩
  generalize BRw (hasP (forP f) ⟨cn, .slice q2 cas.length k2, cas⟩) w = Z at E ⊢
  generalize BRw (hasP (forP f) ⟨cn, .slice q2 cas.length k2, cas⟩) w2 = Z2 at E C FM
  unfold Dt.val
  unfold Ct.val at C ⊢
  simp only at C ⊢
  rw [← hk1] at hw2 ⊢
  rw [← hk3] at hw2 C ⊢
  have HW := Lib.hid hw2
  have hfw := Nat.lt_of_lt_of_le hf hW.size
  clear hw2 hl hs hm hc hcf BW B2 hk1 hk3 hb hf hW
  go_enter Tryd.func54, Tryd.ntmps54
  go_wp2_with fail
  rw [← HW.out]
  refine C.out.mono ?_
  intro e w3 h3
  have F := Lib.hid (E.out e w3 h3)
  obtain ⟨y, rfl⟩ := FM.out e w3 h3
  clear h3 C E FM
  go_wp2
  first | go_ret | skip
  exact F.out
/-- Some part names a type that is not declared like that. -/
def lackD (ds : List Dt) : Bool := ds.any fun d => d.cons.any fun c => hasP (forP (envD ds)) c
theorem findD_any (p : Dt → Ct → Bool) (ds : List Dt) : ∀ k, (findD p ds k).isSome = ds.any fun d => d.cons.any (p d) := by
  induction ds with
  | nil => intro k; rfl
  | cons d ds ih =>
    intro k
    unfold findD
    rw [List.any_cons]
    cases hf : d.cons.findIdx? (p d) with
    | some j =>
      have : d.cons.any (p d) = true := by
        rw [← List.findIdx?_isSome, hf]; rfl
      rw [this]; rfl
    | none =>
      have : d.cons.any (p d) = false := by
        rw [← List.findIdx?_isSome, hf]; rfl
      rw [this]
      simp only [Bool.false_or]
      exact ih _
set_option maxHeartbeats 1000000 in
theorem lacks_any (lv : Value) (ds : List Dt) (w : World) (h : DtsAt w lv ds) (hn : ds.length ≤ 60) (hc6 : ∀ d ∈ ds, d.cons.length ≤ 60) (hs : ∀ d ∈ ds, d.name.size ≤ 1000000 ∧ -9223372036854775808 ≤ d.params ∧ d.params ≤ 9223372036854775807 ∧ ∀ c ∈ d.cons, ∀ t ∈ c.args, ∀ n ∈ t, n.text.size ≤ 1000000) : Calls Tryd.prog 38 #[lv] w (BRw (lackD ds) w) := by
  have hmm := @run_makeMap Tryd.prog
  obtain ⟨W1, r1, o1, g1⟩ := (MapIs.made w).upd sArrow 2 (by decide) (by omega) (by omega) (by omega)
  obtain ⟨W2, r2, o2, g2⟩ := o1.upd sInt 0 (by decide) (by omega) (by omega) (by omega)
  obtain ⟨W3, r3, o3, g3⟩ := o2.upd sText 0 (by decide) (by omega) (by omega) (by omega)
  obtain ⟨W4, r4, o4, g4⟩ := o3.upd sRef 1 (by decide) (by omega) (by omega) (by omega)
  have B4 : Below w.heap.size w W4 := (((((Below.refl w.heap.size w).alloc (Nat.le_refl _) _).grown g1 (by simp) fun k e => by simp at e; omega).grown g2 (Nat.le_trans (by simp) g1.size) fun k e => by simp at e; omega).grown g3 (Nat.le_trans (Nat.le_trans (by simp) g1.size) g2.size) fun k e => by simp at e; omega).grown g4 (Nat.le_trans (Nat.le_trans (Nat.le_trans (by simp) g1.size) g2.size) g3.size) fun k e => by simp at e; omega
  have M0 : MapIs W4 w.heap.size 4 env0 := o4
  have A5 := heap_alloc_new W4 (.cells #[.map (some w.heap.size)] 90)
  have M5 := M0.below (box_keep (W := W4) (.cells #[.map (some w.heap.size)] 90))
  have B5 : Below w.heap.size w (W4.alloc (.cells #[.map (some w.heap.size)] 90)) := B4.alloc B4.size _
  obtain ⟨bx, hbx⟩ : ∃ bx, bx = W4.heap.size := ⟨_, rfl⟩
  have hbz : w.heap.size < bx := by rw [hbx]; exact M0.lt
  rw [← hbx] at A5
  unfold sArrow at r1
  unfold sInt at r2
  unfold sText at r3
  unfold sRef at r4
  obtain ⟨lq, lc, rfl⟩ := h.form
  obtain ⟨n, hnn⟩ : ∃ n, n = ds.length := ⟨_, rfl⟩
  have HN := Lib.hid hnn
  have HD := Lib.hid h
  have HS := Lib.hid hs
  have HC6 := Lib.hid hc6
  have E : Hid (∀ w', Below w.heap.size w w' → BRw (lackD ds) w (.returned (.bool (lackD ds))) w') := Lib.hid fun w' b => ⟨rfl, b⟩
  rw [← hnn] at hn ⊢
  generalize BRw (lackD ds) w = Z at E ⊢
  have HBX := Lib.hid hbx
  have S0 : Hid (MapIs (W4.alloc (.cells #[.map (some w.heap.size)] 90)) w.heap.size 4 env0 ∧ Below w.heap.size w (W4.alloc (.cells #[.map (some w.heap.size)] 90)) ∧ (W4.alloc (.cells #[.map (some w.heap.size)] 90)).heap[bx]? = some (.cells #[.map (some w.heap.size)] 90 (0, 0))) := Lib.hid ⟨M5, B5, A5⟩
  clear h hs hc6 o1 o2 o3 o4 g1 g2 g3 g4 hnn M0 M5 B4 B5 A5 hbx
  go_enter Tryd.func38, Tryd.ntmps38
  go_wp2_with fail
  rw [← HBX.out]
  have LK : Hid (∀ W6 fx, Below w.heap.size w W6 → MapIs W6 w.heap.size (4 + n) (envD ds) → W6.heap[bx]? = some (.cells #[.map (some w.heap.size)] 90 (0, 0)) → W6.heap[fx]? = some (.cells #[.func (.func 53) #[] #[.pointer (some ⟨bx, 0, none⟩)]] 63 (0, 0)) → ∃ r, r.isSome = lackD ds ∧ Calls Tryd.prog 23 #[.slice lq n lc, .func (.func 54) #[] #[.pointer (some ⟨fx, 0, none⟩)]] W6 fun e w' => e = fndE r ∧ Below W6.heap.size W6 w') := Lib.hid fun W6 fx hB hM hb hf => by
    refine ⟨_, findD_any (fun _ c => hasP (forP (envD ds)) c) ds 0, ?_⟩
    rw [HN.out]
    have D6 := HD.out.below hB
    exact search_pure (.slice lq ds.length lc) ds 54 #[.pointer (some ⟨fx, 0, none⟩)] (enters 54 _ Tryd.func54 (by kernel_rfl) (by kernel_rfl)) _ W6 D6 (by rw [← HN.out]; omega) (fun d hd => by have := HC6.out d hd; omega) (fun d hd c hc W hW => lack2_any d c (envD ds) fx bx w.heap.size (4 + n) W W6 (D6.2 d hd).form ((D6.2 d hd).2 c hc) (Array.getElem?_eq_some_iff.1 hb).1 (Array.getElem?_eq_some_iff.1 hf).1 (Lib.cell_of_heap hf 0) (Lib.cell_of_heap hb 0) hM ((HS.out d hd).2.2.2 c hc) hW)
  clear r1 r2 r3 r4 hmm
  go_loopw [14] (fun s14 wr => ∃ i : Nat, i ≤ n ∧ s14 = .int .i64 i ∧ Hid (MapIs wr w.heap.size (4 + i) (envD (ds.take i)) ∧ Below w.heap.size w wr ∧ wr.heap[bx]? = some (.cells #[.map (some w.heap.size)] 90 (0, 0)))) (fun s14 _ => n - (intOf s14).toNat)
  case atStart => exact ⟨0, Nat.zero_le _, rfl, S0⟩
  case round =>
    obtain ⟨wo, hwo⟩ : ∃ wo : World, wo = wr := ⟨_, rfl⟩
    subst hwo
    obtain ⟨i, hi, rfl, hS⟩ := hrel
    clear S0
    by_cases hlt : i < n
    · have D := HD.out.below hS.out.2.1
      obtain ⟨b, o, c, e, hb, c0, c1, c2⟩ := D.cell i (by rw [← HN.out]; exact hlt)
      simp only [Value.slice.injEq] at e
      obtain ⟨rfl, -, -⟩ := e
      have DM := getD_mem ds i (by rw [← HN.out]; exact hlt)
      have SZ := HS.out _ DM
      have ET := envD_take ds i (by rw [← HN.out]; exact hlt)
      have CF := (D.2 _ DM).form
      obtain ⟨d, hd⟩ : ∃ d, d = ds.getD i default := ⟨_, rfl⟩
      rw [← hd] at c0 c1 c2 SZ ET CF
      obtain ⟨lq2, lc2, ecv⟩ := CF
      obtain ⟨m, hm⟩ : ∃ m, m = d.cons.length := ⟨_, rfl⟩
      rw [← hm] at ecv
      rw [ecv] at c2
      have BK := box_keep (W := wo) (.cells #[.string d.name, .int .i64 d.params, .slice lq2 m lc2] 30)
      have X := (BK.block bx (Array.getElem?_eq_some_iff.1 hS.out.2.2).1).trans hS.out.2.2
      have x0 := Lib.cell_of_heap X 0
      obtain ⟨W', r, o', g⟩ := (hS.out.1.below BK).upd d.name d.params SZ.1 SZ.2.1 SZ.2.2.1 (by omega)
      have NX : Hid (MapIs W' w.heap.size (4 + (i + 1)) (envD (ds.take (i + 1))) ∧ Below w.heap.size w W' ∧ W'.heap[bx]? = some (.cells #[.map (some w.heap.size)] 90 (0, 0))) := Lib.hid (by
        refine ⟨by rw [ET]; exact o', ((hS.out.2.1).trans (BK.mono hS.out.2.1.size)).grown g (Nat.le_trans hS.out.2.1.size BK.size) fun k e => by simp at e; omega, (g.block bx (Array.getElem?_eq_some_iff.1 X).1 (by simp; omega)).trans X⟩)
      have k2 : ((i : Int) < (n : Int)) := by omega
      clear D DM SZ ET hd ecv hm BK X g o' hS
      go_wp2
      go_roundw
      case rel => exact ⟨i + 1, hlt, by go_num, NX⟩
      case measure => simp [intOf]; omega
    · obtain rfl : i = n := by omega
      have ML := hS.out.1
      rw [List.take_of_length_le (by rw [← HN.out]; exact Nat.le_refl _)] at ML
      have BK := box_keep (W := wo) (.cells #[.func (.func 53) #[] #[.pointer (some ⟨bx, 0, none⟩)]] 63)
      obtain ⟨y, hy, CC⟩ := LK.out (wo.alloc (.cells #[.func (.func 53) #[] #[.pointer (some ⟨bx, 0, none⟩)]] 63)) wo.heap.size ((hS.out.2.1).trans (BK.mono hS.out.2.1.size)) (ML.below BK) ((BK.block bx (Array.getElem?_eq_some_iff.1 hS.out.2.2).1).trans hS.out.2.2) (heap_alloc_new _ _)
      have CH := Lib.hid CC
      have G : Hid (∀ w', Below (wo.alloc (.cells #[.func (.func 53) #[] #[.pointer (some ⟨bx, 0, none⟩)]] 63)).heap.size (wo.alloc (.cells #[.func (.func 53) #[] #[.pointer (some ⟨bx, 0, none⟩)]] 63)) w' → Z (.returned (.bool y.isSome)) w') := Lib.hid fun w' b => by
        rw [hy]
        exact E.out w' (((hS.out.2.1).trans (BK.mono hS.out.2.1.size)).trans (b.mono (Nat.le_trans hS.out.2.1.size BK.size)))
      clear CC BK ML hS E LK hy
      rcases y with _ | ⟨yi, yj⟩
      · unfold fndE at CH
        go_wp2_with fail
        refine CH.out.mono ?_
        rintro e w3 ⟨rfl, b3⟩
        have F := Lib.hid (G.out w3 b3)
        clear b3 CH G
        go_wp2
        first | go_ret | skip
        exact F.out
      · unfold fndE at CH
        go_wp2_with fail
        refine CH.out.mono ?_
        rintro e w3 ⟨rfl, b3⟩
        have F := Lib.hid (G.out w3 b3)
        clear b3 CH G
        go_wp2
        first | go_ret | skip
        exact F.out
end Go.Proofs.YtncifeeinogcnaaDoor
