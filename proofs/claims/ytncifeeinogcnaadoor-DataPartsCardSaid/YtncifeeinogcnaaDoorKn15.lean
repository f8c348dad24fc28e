/- Texts of this seat, one behind the other: DaG, TyA. -/
import Derived.Test.YtncifeeinogcnaaDoorKn14
import Derived.Test.YtncifeeinogcnaaDoorKn03
import Derived.Shelf.SlicesE.Clone
import Derived.Test.YtncifeeinogcnaaDoorKn01
/- slices.Clone at nodes and constructors; Find, Family. -/
set_option maxRecDepth 100000
namespace Go.Proofs.YtncifeeinogcnaaDoor
open Go.Shelf Go.RowKit Go.Lib Go.Sort Go.Proofs.TreeMath Go.Proofs.LexMath

def cloneN_ren : Go.Shelf.Ren := ⟨fun | 41 => 31 | n => n, fun | 22 => 36 | 23 => 42 | 4 => 4 | n => n, fun | n => n⟩
theorem cloneN : Go.Proofs.SlLaysE0.n41 Tryd.prog cloneN_ren where
  mixed := by kernel_rfl
  f41 := ⟨ "slices.Clone[[]triglyph/api.Node,triglyph/api.Node]", by decide, Tryd.func31.trans (congrArg some (by kernel_rfl))⟩
  t4 := Tryd.underlying4
  a4 := Tryd.isAgg4
  z4 := Tryd.sizeOf4
  v4 := Tryd.zeroValue4
  t22 := Tryd.underlying36
  a22 := Tryd.isAgg36
  z22 := Tryd.sizeOf36
  v22 := Tryd.zeroValue36
def cloneC_ren : Go.Shelf.Ren := ⟨fun | 41 => 25 | n => n, fun | 22 => 27 | 23 => 33 | 4 => 4 | n => n, fun | n => n⟩
theorem cloneC : Go.Proofs.SlLaysE0.n41 Tryd.prog cloneC_ren where
  mixed := by kernel_rfl
  f41 := ⟨ "slices.Clone[[]triglyph/api.Ctor,triglyph/api.Ctor]", by decide, Tryd.func25.trans (congrArg some (by kernel_rfl))⟩
  t4 := Tryd.underlying4
  a4 := Tryd.isAgg4
  z4 := Tryd.sizeOf4
  v4 := Tryd.zeroValue4
  t22 := Tryd.underlying27
  a22 := Tryd.isAgg27
  z22 := Tryd.sizeOf27
  v22 := Tryd.zeroValue27
theorem cln_some (b off c : Nat) (ns : List Nd) (w : World) (hc : CellsIn w b off (nodeCells ns)) (hn : ns.length ≤ 1000000) : Calls Tryd.prog 31 #[.slice (some ⟨b, off, none⟩) ns.length c] w (NRet w ns) := by
  obtain ⟨i0, hi, hz0, hz1, hz2⟩ := infoNode
  have := AnyE.slices_Clone cloneN i0 zeroNode 4 40 hi hz0 hz1 hz2 rfl (by decide) Tryd.sizeOf42 b off ns.length c (nodeCells ns) w (length_nodeCells ns) (by unfold maxLen; omega) (by omega) hc (nodeCells_one ns)
  refine this.mono ?_
  rintro e w' ⟨v', he, hown, _, hb⟩
  exact ⟨v', he, by simpa [NodesAt] using SliceAt.of_owns hown, hb⟩
theorem cln_zero (p : Option Addr) (c : Nat) (w : World) : Calls Tryd.prog 31 #[.slice p 0 c] w (NRet w []) := by
  have q22 : ∀ (w : World) (a : Option Addr) (n c n' c' : Nat), (binOp .eql 36 (.slice a n c) (.slice none n' c')).run Tryd.prog w = .ok (.bool a.isNone) w := fun w a n c n' c' => Lib.run_eql_slice_nil w _ _ a n c n' c' Tryd.underlying36
  rcases p with _ | a
  · go_enter Tryd.func31, Tryd.ntmps31
    go_wp2
    first | go_ret | skip
    exact ⟨_, rfl, ⟨rfl, _, _, rfl, Nat.le_refl _, by unfold maxLen; omega, fun h => absurd rfl h⟩, Below.refl _ _⟩
  · go_enter Tryd.func31, Tryd.ntmps31
    go_wp2
    first | go_ret | skip
    exact ⟨_, rfl, ⟨rfl, _, _, rfl, Nat.le_refl _, by unfold maxLen; omega, fun h => absurd rfl h⟩, (Below.refl _ _).alloc (Nat.le_refl _) _⟩
theorem cln_any (v : Value) (ns : List Nd) (w : World) (h : NodesAt w v ns) (hn : ns.length ≤ 1000000) : Calls Tryd.prog 31 #[v] w (NRet w ns) := by
  obtain ⟨_, p, c, rfl, _, _, hp⟩ := h
  rcases ns with _ | ⟨x, ns⟩
  · exact cln_zero p c w
  · obtain ⟨b, off, rfl, hb, hc⟩ := hp (by simp)
    exact cln_some b off c (x :: ns) w hc hn
def zeroCt : Value := .agg #[.string ⟨#[]⟩, .slice none 0 0]
theorem infoCt : ∃ i, Tryd.prog.info? 33 = some i ∧ i.zero = some zeroCt ∧ i.size = 2 ∧ i.bytes = 40 := info_of' (by kernel_rfl)
def CcP (W : World) (cs : List Ct) (e : Ending) (w' : World) : Prop := ∃ v', e = .returned v' ∧ CtsAt w' v' cs ∧ Below W.heap.size W w'
theorem length_ctCells (cs : List Ct) : (cs.flatMap Ct.cells).length = cs.length * 2 := by
  induction cs with
  | nil => rfl
  | cons c cs ih => rw [List.flatMap_cons, List.length_append, ih]; simp [Ct.cells]; omega
theorem ctCells_one (cs : List Ct) {w : World} (h : ∀ c ∈ cs, ListsAt w c.av c.args) : ∀ v ∈ cs.flatMap Ct.cells, v.oneCell' = true := by
  intro v hv
  rw [List.mem_flatMap] at hv
  obtain ⟨c, hc, hm⟩ := hv
  obtain ⟨q, k, e⟩ := (h c hc).form
  simp only [Ct.cells, List.mem_cons, List.not_mem_nil, or_false] at hm
  rcases hm with rfl | rfl
  · rfl
  · rw [e]; rfl
theorem clc_some (b off c : Nat) (cs : List Ct) (w : World) (hc : CellsIn w b off (cs.flatMap Ct.cells)) (hn : cs.length ≤ 1000000) (ha : ∀ c ∈ cs, ListsAt w c.av c.args) : Calls Tryd.prog 25 #[.slice (some ⟨b, off, none⟩) cs.length c] w (CcP w cs) := by
  obtain ⟨i0, hi, hz0, hz1, hz2⟩ := infoCt
  have := AnyE.slices_Clone cloneC i0 zeroCt 2 40 hi hz0 hz1 hz2 rfl (by decide) Tryd.sizeOf33 b off cs.length c (cs.flatMap Ct.cells) w (length_ctCells cs) (by unfold maxLen; omega) (by omega) hc (ctCells_one cs ha)
  refine this.mono ?_
  rintro e w' ⟨v', he, hown, _, hb⟩
  exact ⟨v', he, ⟨by simpa using SliceAt.of_owns hown, fun c hc => (ha c hc).below hb⟩, hb⟩
theorem clc_zero (p : Option Addr) (c : Nat) (w : World) : Calls Tryd.prog 25 #[.slice p 0 c] w (CcP w []) := by
  have q22 : ∀ (w : World) (a : Option Addr) (n c n' c' : Nat), (binOp .eql 27 (.slice a n c) (.slice none n' c')).run Tryd.prog w = .ok (.bool a.isNone) w := fun w a n c n' c' => Lib.run_eql_slice_nil w _ _ a n c n' c' Tryd.underlying27
  rcases p with _ | a
  · go_enter Tryd.func25, Tryd.ntmps25
    go_wp2
    first | go_ret | skip
    exact ⟨_, rfl, ⟨⟨rfl, _, _, rfl, Nat.le_refl _, by unfold maxLen; omega, fun h => absurd rfl h⟩, fun _ h => by simp at h⟩, Below.refl _ _⟩
  · go_enter Tryd.func25, Tryd.ntmps25
    go_wp2
    first | go_ret | skip
    exact ⟨_, rfl, ⟨⟨rfl, _, _, rfl, Nat.le_refl _, by unfold maxLen; omega, fun h => absurd rfl h⟩, fun _ h => by simp at h⟩, (Below.refl _ _).alloc (Nat.le_refl _) _⟩
theorem clc_any (v : Value) (cs : List Ct) (w : World) (h : CtsAt w v cs) (hn : cs.length ≤ 1000000) : Calls Tryd.prog 25 #[v] w (CcP w cs) := by
  obtain ⟨⟨_, p, c, rfl, _, _, hp⟩, ha⟩ := h
  rcases cs with _ | ⟨x, cs⟩
  · exact clc_zero p c w
  · obtain ⟨b, off, rfl, hb, hc⟩ := hp (by simp)
    exact clc_some b off c (x :: cs) w hc hn ha
/-! ### Find, Family -/
def fndE : Option (Nat × Nat) → Ending
  | some (i, j) => .returned (.tuple #[.int .i64 (i : Nat), .int .i64 (j : Nat), .bool true])
  | none => .returned (.tuple #[.int .i64 0, .int .i64 0, .bool false])
theorem search_pure (lv : Value) (ds : List Dt) (g : Nat) (caps : Array Value) (hg : Hid (∀ vs w, (callFunc g vs).run Tryd.prog w = .ok (.enter g vs) w)) (p : Dt → Ct → Bool) (w : World) (h : DtsAt w lv ds) (hn : ds.length ≤ 1000000) (hc6 : ∀ d ∈ ds, d.cons.length ≤ 1000000)
    (hcall : ∀ d ∈ ds, ∀ c ∈ d.cons, ∀ W, Below w.heap.size w W → Calls Tryd.prog g (#[d.val, c.val] ++ caps) W fun e W' => e = .returned (.bool (p d c)) ∧ Below W.heap.size W W') :
    Calls Tryd.prog 23 #[lv, .func (.func g) #[] caps] w fun e w' => e = fndE (findD p ds 0) ∧ Below w.heap.size w w' := by
  refine (search_gen lv ds g caps hg p (fun _ W => Below w.heap.size w W) w hn hc6 (Below.refl _ _) (Lib.hid fun _ W hW => h.below hW) (Lib.hid fun _ W o hW => hW.alloc hW.size o) (Lib.hid fun _ d c W hd hc _ hW => (hcall d hd c hc W hW).mono ?_)).mono ?_
  · rintro e W' ⟨he, hb⟩
    exact ⟨he, hW.trans (hb.mono hW.size), hb.size, fun k cs T hk _ => (hb.block k (Array.getElem?_eq_some_iff.1 hk).1).trans hk⟩
  · rintro e w' ⟨done, hJ, h⟩
    rcases h with ⟨i, j, hf, he⟩ | ⟨hf, _, he⟩
    · exact ⟨by rw [hf]; exact he, hJ⟩
    · exact ⟨by rw [hf]; exact he, hJ⟩
theorem find1_any (d : Dt) (c : Ct) (con : ByteArray) (b : Nat) (w : World) (hd : ∃ q k, d.cv = .slice q d.cons.length k) (hc : ∃ q k, c.av = .slice q c.args.length k) (hb : b < w.heap.size) (hx : w.cell? ⟨b, 0, none⟩ = some (.string con)) : Calls Tryd.prog 24 #[d.val, c.val, .pointer (some ⟨b, 0, none⟩)] w fun e w' => e = .returned (.bool (decide (c.name = con))) ∧ Below w.heap.size w w' := by
  obtain ⟨q, k, ed⟩ := hd
  obtain ⟨q2, k2, ec⟩ := hc
  obtain ⟨dn, dp, dv, dcs⟩ := d
  obtain ⟨cn, cav, cas⟩ := c
  simp only at ed ec
  subst ed ec
  unfold Dt.val Ct.val
  simp only
  obtain ⟨m, hm⟩ : ∃ m, m = dcs.length := ⟨_, rfl⟩
  obtain ⟨m2, hm2⟩ : ∃ m2, m2 = cas.length := ⟨_, rfl⟩
  rw [← hm, ← hm2]
  clear hm hm2
  have B2 : Hid (Below w.heap.size w ((w.alloc (.cells #[.string dn, .int .i64 dp, .slice q m k] 30)).alloc (.cells #[.string cn, .slice q2 m2 k2] 33))) := Lib.hid (((Below.refl _ _).alloc (Nat.le_refl _) _).alloc (by simp) _)
  have x := (B2.out.cell (p := ⟨b, 0, none⟩) hb).trans hx
  have E : ∀ y, decide (cn = con) = y → Hid (∀ w', Below w.heap.size w w' → (Ending.returned (.bool y) = .returned (.bool (decide (cn = con))) ∧ Below w.heap.size w w')) := fun y e => Lib.hid fun w' h => ⟨by rw [e], h⟩
  by_cases h : cn = con
  · have E := E true (decide_eq_true h)
    generalize decide (cn = con) = y at *
    subst h
    clear hx
    go_enter Tryd.func24, Tryd.ntmps24
    go_wp2
    first | go_ret | skip
    exact E.out _ B2.out
  · have E := E false (decide_eq_false h)
    have t1 := str_ne h
    have t2 := str_ne' h
    generalize decide (cn = con) = y at *
    clear hx h
    go_enter Tryd.func24, Tryd.ntmps24
    go_wp2
    first | go_ret | skip
    exact E.out _ B2.out
def findC (ds : List Dt) (con : ByteArray) : Option (Nat × Nat) := findD (fun _ c => decide (c.name = con)) ds 0
def FdP (w : World) (r : Option (Nat × Nat)) (e : Ending) (w' : World) : Prop := e = fndE r ∧ Below w.heap.size w w'
theorem find_any (lv : Value) (ds : List Dt) (con : ByteArray) (w : World) (h : DtsAt w lv ds) (hn : ds.length ≤ 1000000) (hc6 : ∀ d ∈ ds, d.cons.length ≤ 1000000) : Calls Tryd.prog 9 #[lv, .string con] w (FdP w (findC ds con)) := by
  have BA : Hid (Below w.heap.size w (w.alloc (.cells #[.string con] 9))) := Lib.hid ((Below.refl _ _).alloc (Nat.le_refl _) _)
  have X := Lib.cell_of_heap (heap_alloc_new w (.cells #[.string con] 9)) 0
  obtain ⟨w2, hw2⟩ : ∃ w2, w2 = w.alloc (.cells #[.string con] 9) := ⟨_, rfl⟩
  have hz : w.heap.size < w2.heap.size := by rw [hw2]; simp
  rw [← hw2] at BA X
  have H2 := h.below BA.out
  have C := Lib.hid (search_pure lv ds 24 #[.pointer (some ⟨w.heap.size, 0, none⟩)] (enters 24 _ Tryd.func24 (by kernel_rfl) (by kernel_rfl)) (fun _ c => decide (c.name = con)) w2 H2 hn hc6 (fun d hd c hc W hW => find1_any d c con w.heap.size W (H2.2 d hd).form ((H2.2 d hd).2 c hc).form (Nat.lt_of_lt_of_le hz hW.size) ((hW.cell (p := ⟨w.heap.size, 0, none⟩) hz).trans X)))
  have E : Hid (∀ w', Below w2.heap.size w2 w' → FdP w (findC ds con) (fndE (findC ds con)) w') := Lib.hid fun w' h => ⟨rfl, BA.out.trans (h.mono BA.out.size)⟩
  have HW := Lib.hid hw2
  obtain ⟨lq, lc, rfl⟩ := h.form
  rw [show findD (fun _ c => decide (c.name = con)) ds 0 = findC ds con from rfl] at C
  clear hw2 H2 h X hz
  generalize FdP w (findC ds con) = Z at E ⊢
  cases hf : findC ds con with
  | none =>
    rw [hf] at C E
    unfold fndE at *
    clear hf
    go_enter Tryd.func9, Tryd.ntmps9
    go_wp2_with fail
    rw [← HW.out]
    refine C.out.mono ?_
    rintro e w3 ⟨rfl, b3⟩
    have F := Lib.hid (E.out w3 b3)
    clear b3 C
    go_wp2
    first | go_ret3 | skip
    exact F.out
  | some ij =>
    obtain ⟨i, j⟩ := ij
    rw [hf] at C E
    unfold fndE at *
    clear hf
    go_enter Tryd.func9, Tryd.ntmps9
    go_wp2_with fail
    rw [← HW.out]
    refine C.out.mono ?_
    rintro e w3 ⟨rfl, b3⟩
    have F := Lib.hid (E.out w3 b3)
    clear b3 C
    go_wp2
    first | go_ret3 | skip
    exact F.out
end Go.Proofs.YtncifeeinogcnaaDoor
/- Types as trees, what is put in the place of variables, and equations: plain mathematics. -/
namespace Go.Proofs.YtncifeeinogcnaaDoor
open Go.Proofs.TreeMath

abbrev T := Nd × F
def vN (v : Int) : Nd := ⟨31, ⟨#[]⟩, v, 0⟩
def vT (v : Int) : T := (vN v, .nil)
def sub (s : Int → T) : F → F
  | .nil => .nil
  | .cons n k r => if n.kind = 31 then .cons (s n.num).1 (s n.num).2 (sub s r) else .cons n (sub s k) (sub s r)
def subT (s : Int → T) (t : T) : T := if t.1.kind = 31 then s t.1.num else (t.1, sub s t.2)
theorem sub_cons (s : Int → T) (n : Nd) (k r : F) : sub s (.cons n k r) = .cons (subT s (n, k)).1 (subT s (n, k)).2 (sub s r) := by
  unfold subT
  simp only [sub]
  split <;> rfl
theorem sub_comp (s t : Int → T) (f : F) : sub s (sub t f) = sub (fun v => subT s (t v)) f := by
  induction f with
  | nil => rfl
  | cons n k r hk hr =>
    by_cases h : n.kind = 31
    · rw [show sub t (.cons n k r) = .cons (t n.num).1 (t n.num).2 (sub t r) by simp only [sub, if_pos h], sub_cons, hr]
      simp only [sub, if_pos h]
    · simp only [sub, if_neg h, hk, hr]
theorem subT_comp (s t : Int → T) (x : T) : subT s (subT t x) = subT (fun v => subT s (t v)) x := by
  by_cases h : x.1.kind = 31
  · simp only [subT, if_pos h]
  · simp only [subT, if_neg h, sub_comp]
theorem subT_vT (s : Int → T) (v : Int) : subT s (vT v) = s v := by simp [subT, vT, vN]
theorem subT_con (s : Int → T) (x : T) (h : x.1.kind ≠ 31) : subT s x = (x.1, sub s x.2) := by simp [subT, h]
/-- Variables are nodes of one form. -/
def wv : F → Prop
  | .nil => True
  | .cons n k r => (n.kind = 31 → n = vN n.num ∧ k = .nil) ∧ wv k ∧ wv r
def wvT (t : T) : Prop := (t.1.kind = 31 → t.1 = vN t.1.num ∧ t.2 = .nil) ∧ wv t.2
theorem wv_cons (t : T) (r : F) : wv (.cons t.1 t.2 r) ↔ wvT t ∧ wv r := by simp [wv, wvT, and_assoc]
theorem wvT_var {t : T} (h : wvT t) (hv : t.1.kind = 31) : t = vT t.1.num := by
  obtain ⟨h1, h2⟩ := h.1 hv
  exact Prod.ext h1 h2
theorem wv_sub {s : Int → T} (hs : ∀ v, wvT (s v)) (f : F) (h : wv f) : wv (sub s f) := by
  induction f with
  | nil => trivial
  | cons n k r hk hr =>
    obtain ⟨h1, h2, h3⟩ := h
    by_cases hn : n.kind = 31
    · simp only [sub, if_pos hn]
      exact (wv_cons _ _).2 ⟨hs _, hr h3⟩
    · simp only [sub, if_neg hn]
      exact ⟨fun h => absurd h hn, hk h2, hr h3⟩
theorem wvT_subT {s : Int → T} (hs : ∀ v, wvT (s v)) (t : T) (h : wvT t) : wvT (subT s t) := by
  by_cases hn : t.1.kind = 31
  · simp only [subT, if_pos hn]; exact hs _
  · simp only [subT, if_neg hn]; exact ⟨fun h => absurd h hn, wv_sub hs _ h.2⟩
/-- The variables of a forest. -/
def vs : F → List Int
  | .nil => []
  | .cons n k r => (if n.kind = 31 then [n.num] else vs k) ++ vs r
def vsT (t : T) : List Int := if t.1.kind = 31 then [t.1.num] else vs t.2
theorem fix_vars (s : Int → T) (f : F) (h : wv f) : sub s f = f → ∀ v ∈ vs f, s v = vT v := by
  induction f with
  | nil => intro _ v hv; simp [vs] at hv
  | cons n k r hk hr =>
    obtain ⟨h1, h2, h3⟩ := h
    intro e v hv
    by_cases hn : n.kind = 31
    · simp only [sub, if_pos hn, F.cons.injEq] at e
      obtain ⟨e1, e2, e3⟩ := e
      obtain ⟨a, b⟩ := h1 hn
      simp only [vs, if_pos hn, List.cons_append, List.nil_append, List.mem_cons] at hv
      rcases hv with rfl | hv
      · refine Prod.ext (e1.trans a) (e2.trans b)
      · exact hr h3 e3 v hv
    · simp only [sub, if_neg hn, F.cons.injEq, true_and] at e
      simp only [vs, if_neg hn, List.mem_append] at hv
      rcases hv with hv | hv
      · exact hk h2 e.1 v hv
      · exact hr h3 e.2 v hv
theorem fixT_vars (s : Int → T) (t : T) (h : wvT t) (e : subT s t = t) : ∀ v ∈ vsT t, s v = vT v := by
  intro v hv
  by_cases hn : t.1.kind = 31
  · simp only [vsT, if_pos hn, List.mem_singleton] at hv
    subst hv
    simp only [subT, if_pos hn] at e
    rw [e]; exact wvT_var h hn
  · simp only [subT, if_neg hn] at e
    simp only [vsT, if_neg hn] at hv
    exact fix_vars s t.2 h.2 (congrArg Prod.snd e) v hv
theorem sub_fixed (s : Int → T) (f : F) (h : wv f) : (∀ v ∈ vs f, s v = vT v) → sub s f = f := by
  induction f with
  | nil => intro _; rfl
  | cons n k r hk hr =>
    obtain ⟨h1, h2, h3⟩ := h
    intro e
    by_cases hn : n.kind = 31
    · obtain ⟨a, b⟩ := h1 hn
      simp only [vs, if_pos hn, List.cons_append, List.nil_append, List.mem_cons] at e
      simp only [sub, if_pos hn]
      rw [e _ (.inl rfl), hr h3 (fun v hv => e v (.inr hv))]
      simp only [vT]
      rw [← a, b]
    · simp only [vs, if_neg hn, List.mem_append] at e
      simp only [sub, if_neg hn]
      rw [hk h2 (fun v hv => e v (.inl hv)), hr h3 (fun v hv => e v (.inr hv))]
theorem subT_fixed (s : Int → T) (t : T) (h : wvT t) (e : ∀ v ∈ vsT t, s v = vT v) : subT s t = t := by
  by_cases hn : t.1.kind = 31
  · simp only [vsT, if_pos hn, List.mem_singleton] at e
    simp only [subT, if_pos hn]
    rw [e _ rfl]; exact (wvT_var h hn).symm
  · simp only [vsT, if_neg hn] at e
    simp only [subT, if_neg hn, sub_fixed s t.2 h.2 e]
/-- These make all equations true. -/
def Un (es : List (T × T)) (s : Int → T) : Prop := ∀ e ∈ es, subT s e.1 = subT s e.2
/-- The most general that does, with the least variables. -/
structure Mgu (es : List (T × T)) (s : Int → T) : Prop where
  un : Un es s
  gen : ∀ t, Un es t → ∀ v, subT t (s v) = t v
  wf : ∀ v, wvT (s v)
  least : ∀ v u, s v = vT u → u ≤ v
theorem Mgu.idem {es : List (T × T)} {s : Int → T} (h : Mgu es s) (v : Int) : subT s (s v) = s v := h.gen s h.un v
theorem Mgu.same {es : List (T × T)} {s t : Int → T} (h : Mgu es s) (k : Mgu es t) : s = t := by
  funext v
  have fx : ∀ u ∈ vsT (s v), t u = vT u := by
    intro u hu
    have h1 : s u = vT u := fixT_vars s (s v) (h.wf v) (h.idem v) u hu
    have h2 : subT s (t u) = vT u := (k.gen s h.un u).trans h1
    have h3 : (t u).1.kind = 31 := by
      apply Classical.byContradiction
      intro hn
      rw [subT_con s _ hn] at h2
      exact hn (congrArg (fun x => x.1.kind) h2)
    have h4 : t u = vT (t u).1.num := wvT_var (k.wf u) h3
    have h5 : s (t u).1.num = vT u := by
      rw [h4, subT_vT] at h2
      exact h2
    have a := h.least _ _ h5
    have b := k.least _ _ h4
    have c : (t u).1.num = u := by omega
    rw [c] at h4
    exact h4
  have h1 : subT t (s v) = s v := subT_fixed t (s v) (h.wf v) fx
  exact h1.symm.trans (h.gen t k.un v)
theorem Un.mono {es fs : List (T × T)} {s : Int → T} (h : Un fs s) (hs : ∀ e ∈ es, e ∈ fs) : Un es s := fun e he => h e (hs e he)
def szT (t : T) : Nat := 1 + t.2.sz
def flatT (t : T) : List Nd := (F.cons t.1 t.2 .nil).flat
theorem flatT_length (t : T) : (flatT t).length = szT t := by simp [flatT, F.flat, F.flat_length, szT]; omega
end Go.Proofs.YtncifeeinogcnaaDoor
