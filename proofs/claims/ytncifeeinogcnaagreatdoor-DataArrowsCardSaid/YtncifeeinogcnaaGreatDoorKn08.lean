/- Texts of this seat, one behind the other: CkB, DaA. -/
import Derived.Test.YtncifeeinogcnaaGreatDoorKn07
import Derived.Test.YtncifeeinogcnaaGreatDoorKn02
import Derived.Shelf.SlicesQ.IndexFunc
import Derived.IntWalk
import Derived.Test.YtncifeeinogcnaaGreatDoorKn01
/- Whether nodes are a type: the contract of Check. -/
set_option maxRecDepth 100000
namespace Go.Proofs.YtncifeeinogcnaaGreatDoor
open Go.Shelf Go.RowKit Go.Lib Go.Sort Go.Proofs.TreeMath Go.Proofs.LexMath

def containsLays_ren : Go.Shelf.Ren := ⟨fun | 8 => 50 | 6 => 94 | n => n, fun | 22 => 22 | 23 => 58 | 25 => 77 | 4 => 4 | 3 => 3 | 0 => 0 | n => n, fun | n => n⟩
theorem containsLays : Go.Proofs.SlLaysH0.n8 Tryz.prog containsLays_ren where
  mixed := by kernel_rfl
  f6 := ⟨ "slices.IndexFunc[[]triglyph/api.Node,triglyph/api.Node]", by decide, Tryz.func94.trans (congrArg some (by kernel_rfl))⟩
  f8 := ⟨ "slices.ContainsFunc[[]triglyph/api.Node,triglyph/api.Node]", by decide, Tryz.func50.trans (congrArg some (by kernel_rfl))⟩
  t0 := Tryz.underlying0
  a0 := Tryz.isAgg0
  z0 := Tryz.sizeOf0
  v0 := Tryz.zeroValue0
  t3 := Tryz.underlying3
  a3 := Tryz.isAgg3
  z3 := Tryz.sizeOf3
  v3 := Tryz.zeroValue3
  t4 := Tryz.underlying4
  a4 := Tryz.isAgg4
  z4 := Tryz.sizeOf4
  v4 := Tryz.zeroValue4
  t22 := Tryz.underlying22
  a22 := Tryz.isAgg22
  z22 := Tryz.sizeOf22
  v22 := Tryz.zeroValue22
  t25 := Tryz.underlying77
  a25 := Tryz.isAgg77
  z25 := Tryz.sizeOf77
  v25 := Tryz.zeroValue77
set_option maxHeartbeats 2000000 in
theorem rightn_any (m : Nd) (w : World) (hs : m.text.size ≤ 100000000) : Calls Tryz.prog 48 #[m.val] w (BRw (rightN m) w) := by
  have CON := Lib.hid (fun W => rightCon_any m W hs)
  obtain ⟨k, s, nm, c⟩ := m
  have ALL : ∀ b : Bool, rightN ⟨k, s, nm, c⟩ = b → Hid (∀ w', Below w.heap.size w w' → BRw (rightN ⟨k, s, nm, c⟩) w (.returned (.bool b)) w') := fun b hb => Lib.hid fun w' h => ⟨by rw [hb], h⟩
  have BA : Hid (Below w.heap.size w (w.alloc (.cells #[.int .i64 k, .string s, .int .i64 nm, .int .i64 c] 58))) := Lib.hid ((Below.refl _ _).alloc (Nat.le_refl _) _)
  unfold Nd.val at *
  simp only at hs CON ⊢
  have hse : s.toList.isEmpty = s.data.toList.isEmpty := by rw [ByteArray.toList_eq]
  by_cases h1 : k = 31
  · subst h1
    have R : rightN ⟨31, s, nm, c⟩ = (decide (0 ≤ nm) && decide (nm ≤ 1048576) && (c == 0) && s.data.toList.isEmpty) := rfl
    rw [← hse] at R
    clear CON hs hse
    cases a1 : decide (0 ≤ nm) with
    | false =>
      have A := ALL false (by rw [R, a1]; rfl)
      generalize rightN ⟨31, s, nm, c⟩ = Z at *
      clear R ALL
      go_enter Tryz.func48, Tryz.ntmps48
      go_wp2
      go_ret
      exact A.out _ BA.out
    | true =>
      cases a2 : decide (nm ≤ 1048576) with
      | false =>
        have A := ALL false (by rw [R, a1, a2]; rfl)
        generalize rightN ⟨31, s, nm, c⟩ = Z at *
        clear R ALL
        go_enter Tryz.func48, Tryz.ntmps48
        go_wp2
        go_ret
        exact A.out _ BA.out
      | true =>
        cases a3 : (c == 0) with
        | false =>
          have A := ALL false (by rw [R, a1, a2, a3]; rfl)
          generalize rightN ⟨31, s, nm, c⟩ = Z at *
          clear R ALL
          go_enter Tryz.func48, Tryz.ntmps48
          go_wp2
          go_ret
          exact A.out _ BA.out
        | true =>
          cases a4 : s.toList.isEmpty with
          | false =>
            have A := ALL false (by rw [R, a1, a2, a3, a4]; rfl)
            have a5 : ¬ s.toList = [] := by intro e; rw [e] at a4; simp at a4
            generalize rightN ⟨31, s, nm, c⟩ = Z at *
            clear R ALL
            go_enter Tryz.func48, Tryz.ntmps48
            go_wp2
            go_ret
            exact A.out _ BA.out
          | true =>
            have A := ALL true (by rw [R, a1, a2, a3, a4]; rfl)
            have a5 : s.toList = [] := by simpa using a4
            generalize rightN ⟨31, s, nm, c⟩ = Z at *
            clear R ALL
            go_enter Tryz.func48, Tryz.ntmps48
            go_wp2
            go_ret
            exact A.out _ BA.out
  · by_cases h2 : k = 32
    · subst h2
      have R : rightN ⟨32, s, nm, c⟩ = ((nm == 0) && conB s c) := rfl
      clear hse hs h1
      cases a1 : (nm == 0) with
      | false =>
        have A := ALL false (by rw [R, a1]; rfl)
        generalize rightN ⟨32, s, nm, c⟩ = Z at *
        clear R ALL CON
        go_enter Tryz.func48, Tryz.ntmps48
        go_wp2
        go_ret
        exact A.out _ BA.out
      | true =>
        have A := ALL (conB s c) (by rw [R, a1]; rfl)
        generalize rightN ⟨32, s, nm, c⟩ = Z at *
        generalize conB s c = y at *
        clear R ALL
        go_enter Tryz.func48, Tryz.ntmps48
        go_wp2_with fail
        refine (CON.out _).mono ?_
        rintro e w1 ⟨rfl, b1⟩
        have B1 := Lib.hid b1
        clear b1 CON
        go_wp2
        go_ret
        exact A.out _ (BA.out.trans (B1.out.mono BA.out.size))
    · have A := ALL false (by unfold rightN; rw [if_neg h1, if_neg h2])
      have t1 : (k == 31) = false := by simpa using h1
      have t2 : (k == 32) = false := by simpa using h2
      generalize rightN ⟨k, s, nm, c⟩ = Z at *
      clear ALL CON hs hse h1 h2
      go_enter Tryz.func48, Tryz.ntmps48
      go_wp2
      go_ret
      exact A.out _ BA.out
/-- A node whose text is not too long for the model. -/
abbrev SNd := {f : Nd // f.text.size ≤ 100000000}
instance : Inhabited SNd := ⟨⟨⟨31, ⟨#[]⟩, 0, 0⟩, by decide⟩⟩
def SmallN (fs : List Nd) : Prop := ∀ f ∈ fs, f.text.size ≤ 100000000
theorem wrongn_any (x : SNd) (W w : World) (hb : Below w.heap.size w W) : Calls Tryz.prog 47 #[x.1.val] W fun e w' => e = .returned (.bool (!rightN x.1)) ∧ Below w.heap.size w w' := by
  have C := Lib.hid (fun W => rightn_any x.1 W x.2)
  have HB := Lib.hid hb
  obtain ⟨⟨k, s, nm, c⟩, _⟩ := x
  simp only at C ⊢
  generalize rightN ⟨k, s, nm, c⟩ = r at *
  unfold Nd.val at C ⊢
  simp only at C ⊢
  clear hb
  go_enter Tryz.func47, Tryz.ntmps47
  go_wp2_with fail
  refine (C.out _).mono ?_
  rintro e w1 ⟨rfl, b1⟩
  have B1 := Lib.hid b1
  clear b1
  go_wp2
  go_ret
  exact ⟨rfl, (HB.out.alloc HB.out.size _).trans (B1.out.mono (by have := HB.out.size; simp; omega))⟩
theorem attachn_any (fs : List Nd) (h : ∀ f ∈ fs, f.text.size ≤ 100000000) (p : Nd → Bool) : ((fs.attachWith _ h).any fun x : SNd => p x.1) = fs.any p := by
  induction fs with
  | nil => rfl
  | cons f fs ih => rw [List.attachWith_cons, List.any_cons, List.any_cons, ih]
theorem IndexFuncN_zero (g : Value) (p : Option Addr) (c : Nat) (w : World) : Calls Tryz.prog 94 #[.slice p 0 c, g] w fun e w' => e = .returned (.int .i64 (-1)) ∧ w = w' := by
  go_enter Tryz.func94, Tryz.ntmps94
  go_wp2
  refine wp_loop_rounds 1 ?_
  rw [rounds_succ]
  go_wp2
  go_ret
  exact ⟨rfl, rfl⟩
theorem containsN_zero (p : Option Addr) (c : Nat) (g : Value) (w : World) : Calls Tryz.prog 50 #[.slice p 0 c, g] w fun e w' => e = .returned (.bool false) ∧ w = w' := by
  go_enter Tryz.func50, Tryz.ntmps50
  go_wp2_with fail
  refine (IndexFuncN_zero _ _ _ _).mono ?_
  rintro e w1 ⟨rfl, rfl⟩
  go_wp2
  go_ret
  exact ⟨rfl, rfl⟩
theorem CellsIn.encN {w : World} {b off : Nat} {fs : List Nd} (h : CellsIn w b off (nodeCells fs)) (j : Nat) (hj : j < fs.length) (i : Nat) (v : Value) (hv : (Nd.cells fs[j]!)[i]? = some v) : w.cell? ⟨b, off + j * 4 + i, none⟩ = some v := by
  have hi : i < 4 := by
    have := (List.getElem?_eq_some_iff.1 hv).1
    simpa [Nd.cells] using this
  have := nodeCells_get fs j hj i hi
  rw [List.getD_eq_getElem?_getD, List.getElem?_eq_getElem hj, Option.getD_some] at this
  rw [getElem!_pos fs j hj] at hv
  rw [Nat.add_assoc]
  exact h _ _ (this.trans hv)
theorem containsN_some (b off n c : Nat) (fs : List Nd) (w : World) (hl : fs.length = n) (hn : n ≤ 1000000) (hs : ∀ f ∈ fs, f.text.size ≤ 100000000) (hb : b < w.heap.size) (hc : CellsIn w b off (nodeCells fs)) : Calls Tryz.prog 50 #[.slice (some ⟨b, off, none⟩) n c, .func (.func 47) #[] #[]] w (BRw (fs.any fun f => !rightN f) w) := by
  have eg : ∀ args w, (callFunc 47 args).run Tryz.prog w = .ok (.enter 47 args) w := enters_of Tryz.func47 (by kernel_rfl) rfl
  have hl2 : (fs.attachWith _ hs).length = n := by rw [List.length_attachWith, hl]
  have hcon := AnyQ.slices_ContainsFunc containsLays 4 Tryz.isAgg58 Tryz.sizeOf58 (fun x : SNd => Nd.cells x.1) (fun _ => rfl) (fun x : SNd => !rightN x.1) 47 #[] eg b off n c (fs.attachWith _ hs) w
    (fun W x hW => wrongn_any x W w hW) (by rw [hl2]; exact Nat.le_refl _) (by omega) hb (fun j hj i v hi => by
      rw [hl2, ← hl] at hj
      refine hc.encN j hj i v ?_
      rw [getElem!_pos _ j (by rw [List.length_attachWith]; exact hj), List.getElem_attachWith] at hi
      rw [getElem!_pos fs j hj]
      exact hi)
  change Calls Tryz.prog 50 _ _ _ at hcon
  rw [List.take_of_length_le (by rw [hl2]; exact Nat.le_refl _), attachn_any fs hs (fun f => !rightN f)] at hcon
  exact hcon
theorem containsN_any (v : Value) (fs : List Nd) (w : World) (h : NodesAt w v fs) (hn : fs.length ≤ 1000000) (hs : SmallN fs) : Calls Tryz.prog 50 #[v, .func (.func 47) #[] #[]] w (BRw (fs.any fun f => !rightN f) w) := by
  obtain ⟨_, p, c, rfl, _, _, hp⟩ := h
  rcases fs with _ | ⟨x, fs⟩
  · exact (containsN_zero p c _ w).mono fun e w' ⟨he, hw⟩ => ⟨he, by rw [← hw]; exact Below.refl _ _⟩
  · obtain ⟨b, off, rfl, hb, hc⟩ := hp (by simp)
    exact containsN_some b off _ c (x :: fs) w rfl hn hs hb hc
/-- Are these nodes a type? -/
def tyB (ns : List Nd) : Bool := decide (ns.length ≤ 4000) && wholeB (kk ns) && ns.all rightN
def CkP (ns : List Nd) (w : World) (e : Ending) (w' : World) : Prop := e = .returned (.int .i64 (if tyB ns = true then 0 else 90)) ∧ Below w.heap.size w w'
set_option maxHeartbeats 2000000 in
theorem check_any (v : Value) (ns : List Nd) (w : World) (h : NodesAt w v ns) (hn : ns.length ≤ 1000000) (hs : SmallN ns) : Calls Tryz.prog 14 #[v] w (CkP ns w) := by
  have WH := Lib.hid (fun W (hb : Below w.heap.size w W) => whole_any v ns W (h.below hb) hn)
  have CN := Lib.hid (fun W (hb : Below w.heap.size w W) => containsN_any v ns W (h.below hb) hn hs)
  have hna : (ns.any fun f => !rightN f) = !(ns.all rightN) := by rw [List.not_all_eq_any_not]
  have ALL : ∀ b : Int, (if tyB ns = true then (0 : Int) else 90) = b → Hid (∀ w', Below w.heap.size w w' → CkP ns w (.returned (.int .i64 b)) w') := fun b hb => Lib.hid fun w' h => ⟨by rw [hb], h⟩
  obtain ⟨q, c, rfl⟩ : ∃ q c, v = .slice q ns.length c := by obtain ⟨_, q, c, e, _⟩ := h; exact ⟨q, c, e⟩
  have hT : tyB ns = (decide (ns.length ≤ 4000) && wholeB (kk ns) && ns.all rightN) := rfl
  obtain ⟨l, hl⟩ : ∃ l, l = ns.length := ⟨_, rfl⟩
  rw [← hl] at WH CN hT ⊢
  have hn9 : l ≤ 1000000 := by omega
  rw [hna] at CN
  generalize ns.all rightN = y at *
  generalize wholeB (kk ns) = z at *
  clear h hs hn hl hna
  by_cases h1 : 4000 < l
  · have A := ALL 90 (by rw [hT, decide_eq_false (by omega)]; rfl)
    have t1 : decide ((4000 : Int) < (l : Int)) = true := by simp; omega
    generalize CkP ns w = Z at *
    clear hT ALL WH CN
    go_enter Tryz.func14, Tryz.ntmps14
    go_wp2
    first | go_ret | skip
    exact A.out _ (Below.refl _ _)
  · have t1 : decide ((4000 : Int) < (l : Int)) = false := by simp; omega
    have tl : decide (l ≤ 4000) = true := decide_eq_true (by omega)
    cases z with
    | false =>
      have A := ALL 90 (by rw [hT, tl]; rfl)
      generalize CkP ns w = Z at *
      clear hT ALL CN tl
      go_enter Tryz.func14, Tryz.ntmps14
      go_wp2_with fail
      refine (WH.out _ (Below.refl _ _)).mono ?_
      rintro e w1 ⟨rfl, rfl⟩
      go_wp2
      first | go_ret | skip
      exact A.out _ (Below.refl _ _)
    | true =>
      have A := ALL (if y = true then 0 else 90) (by rw [hT, tl]; cases y <;> rfl)
      clear hT ALL tl
      go_enter Tryz.func14, Tryz.ntmps14
      go_wp2_with fail
      refine (WH.out _ (Below.refl _ _)).mono ?_
      rintro e w1 ⟨rfl, rfl⟩
      go_wp2_with fail
      refine (CN.out _ (Below.refl _ _)).mono ?_
      rintro e w2 ⟨rfl, b2⟩
      have B2 := Lib.hid b2
      clear b2 WH CN
      cases y with
      | true =>
        have A : Hid (∀ w', Below w.heap.size w w' → CkP ns w (.returned (.int .i64 0)) w') := A
        go_wp2
        go_ret
        exact A.out _ B2.out
      | false =>
        have A : Hid (∀ w', Below w.heap.size w w' → CkP ns w (.returned (.int .i64 90)) w') := A
        go_wp2
        go_ret
        exact A.out _ B2.out
end Go.Proofs.YtncifeeinogcnaaGreatDoor
/- Declarations in a world. -/
set_option maxRecDepth 100000
namespace Go.Proofs.YtncifeeinogcnaaGreatDoor
open Go.Shelf Go.RowKit Go.Lib Go.Sort Go.Proofs.TreeMath

/-- A constructor: its name, what holds its parts, and these. -/
structure Ct where
  name : ByteArray
  av : Value
  args : List (List Nd)
  deriving Inhabited
/-- A declaration: its name, how many parameters, what holds its constructors, and these. -/
structure Dt where
  name : ByteArray
  params : Int
  cv : Value
  cons : List Ct
  deriving Inhabited
def Ct.cells (c : Ct) : List Value := [.string c.name, c.av]
def Ct.val (c : Ct) : Value := .agg #[.string c.name, c.av]
def Dt.cells (d : Dt) : List Value := [.string d.name, .int .i64 d.params, d.cv]
def Dt.val (d : Dt) : Value := .agg #[.string d.name, .int .i64 d.params, d.cv]
def CtsAt (w : World) (v : Value) (cs : List Ct) : Prop := SliceAt w 2 v cs.length (cs.flatMap Ct.cells) ∧ ∀ c ∈ cs, ListsAt w c.av c.args
def DtsAt (w : World) (v : Value) (ds : List Dt) : Prop := SliceAt w 3 v ds.length (ds.flatMap Dt.cells) ∧ ∀ d ∈ ds, CtsAt w d.cv d.cons
theorem CtsAt.below {w w' : World} {v : Value} {cs : List Ct} (h : CtsAt w v cs) (b : Below w.heap.size w w') : CtsAt w' v cs := ⟨h.1.below b, fun c hc => (h.2 c hc).below b⟩
theorem DtsAt.below {w w' : World} {v : Value} {ds : List Dt} (h : DtsAt w v ds) (b : Below w.heap.size w w') : DtsAt w' v ds := ⟨h.1.below b, fun d hd => (h.2 d hd).below b⟩
theorem flat_get {α : Type} [Inhabited α] (f : α → List Value) (k : Nat) (hk : ∀ x, (f x).length = k) (l : List α) (i : Nat) (hi : i < l.length) (r : Nat) (hr : r < k) : (l.flatMap f)[i * k + r]? = (f (l.getD i default))[r]? := by
  induction l generalizing i with
  | nil => simp at hi
  | cons a l ih =>
    rw [List.flatMap_cons]
    cases i with
    | zero =>
      rw [Nat.zero_mul, Nat.zero_add, List.getElem?_append_left (by rw [hk]; exact hr)]
      rfl
    | succ i =>
      rw [List.getElem?_append_right (by rw [hk, Nat.succ_mul]; omega), hk, List.getD_cons_succ, ← ih i (by simpa using hi)]
      congr 1
      rw [Nat.succ_mul]; omega
theorem getD_mem {α : Type} [Inhabited α] (l : List α) (i : Nat) (hi : i < l.length) : l.getD i default ∈ l := by
  rw [List.getD_eq_getElem?_getD, List.getElem?_eq_getElem hi]; exact List.getElem_mem hi
theorem CtsAt.cell {w : World} {v : Value} {cs : List Ct} (h : CtsAt w v cs) (i : Nat) (hi : i < cs.length) : ∃ b off c, v = .slice (some ⟨b, off, none⟩) cs.length c ∧ b < w.heap.size ∧ w.cell? ⟨b, off + i * 2, none⟩ = some (.string (cs.getD i default).name) ∧ w.cell? ⟨b, off + i * 2 + 1, none⟩ = some (cs.getD i default).av := by
  obtain ⟨_, p, c, rfl, _, _, h4⟩ := h.1
  obtain ⟨b, off, rfl, hb, hc⟩ := h4 (by omega)
  have h0 := hc _ _ (flat_get Ct.cells 2 (fun _ => rfl) cs i hi 0 (by omega))
  have h1 := hc _ _ (flat_get Ct.cells 2 (fun _ => rfl) cs i hi 1 (by omega))
  exact ⟨b, off, c, rfl, hb, h0, h1⟩
theorem DtsAt.cell {w : World} {v : Value} {ds : List Dt} (h : DtsAt w v ds) (i : Nat) (hi : i < ds.length) : ∃ b off c, v = .slice (some ⟨b, off, none⟩) ds.length c ∧ b < w.heap.size ∧ w.cell? ⟨b, off + i * 3, none⟩ = some (.string (ds.getD i default).name) ∧ w.cell? ⟨b, off + i * 3 + 1, none⟩ = some (.int .i64 (ds.getD i default).params) ∧ w.cell? ⟨b, off + i * 3 + 2, none⟩ = some (ds.getD i default).cv := by
  obtain ⟨_, p, c, rfl, _, _, h4⟩ := h.1
  obtain ⟨b, off, rfl, hb, hc⟩ := h4 (by omega)
  have h0 := hc _ _ (flat_get Dt.cells 3 (fun _ => rfl) ds i hi 0 (by omega))
  have h1 := hc _ _ (flat_get Dt.cells 3 (fun _ => rfl) ds i hi 1 (by omega))
  have h2 := hc _ _ (flat_get Dt.cells 3 (fun _ => rfl) ds i hi 2 (by omega))
  exact ⟨b, off, c, rfl, hb, h0, h1, h2⟩
theorem CtsAt.form {w : World} {v : Value} {cs : List Ct} (h : CtsAt w v cs) : ∃ p c, v = .slice p cs.length c := by obtain ⟨_, p, c, e, _⟩ := h.1; exact ⟨p, c, e⟩
theorem DtsAt.form {w : World} {v : Value} {ds : List Dt} (h : DtsAt w v ds) : ∃ p c, v = .slice p ds.length c := by obtain ⟨_, p, c, e, _⟩ := h.1; exact ⟨p, c, e⟩
theorem ListsAt.form {w : World} {v : Value} {Ls : List (List Nd)} (h : ListsAt w v Ls) : ∃ p c, v = .slice p Ls.length c := by obtain ⟨_, ⟨_, p, c, e, _⟩, _⟩ := h; exact ⟨p, c, e⟩
/-- Texts and lists that are not too long for the model. -/
def SmallC (c : Ct) : Prop := c.name.size ≤ 100000000 ∧ c.args.length ≤ 1000000 ∧ ∀ t ∈ c.args, t.length ≤ 1000000 ∧ SmallN t
def SmallD (d : Dt) : Prop := d.name.size ≤ 100000000 ∧ d.cons.length ≤ 1000000 ∧ ∀ c ∈ d.cons, SmallC c

/-! ### slices.ContainsFunc over lists of nodes: for whatever question -/
theorem any_range_succ (p : Nat → Bool) (j : Nat) : (List.range (j + 1)).any p = ((List.range j).any p || p j) := by simp [List.range_succ]
theorem idxL_any (g : Nat) (caps : Array Value) (hg : Hid (∀ vs w, (callFunc g vs).run Tryz.prog w = .ok (.enter g vs) w)) (v : Value) (vs : List Value) (n : Nat) (p : Nat → Bool) (w : World) (h : SliceAt w 1 v n vs)
    (hp : Hid (∀ j, j < n → ∀ W, Below w.heap.size w W → Calls Tryz.prog g (#[vs.getD j default] ++ caps) W fun e w' => e = .returned (.bool (p j)) ∧ Below W.heap.size W w')) :
    Calls Tryz.prog 155 #[v, .func (.func g) #[] caps] w fun e w' => (∃ r : Int, e = .returned (.int .i64 r) ∧ decide (0 ≤ r) = (List.range n).any p) ∧ Below w.heap.size w w' := by
  obtain ⟨hvl, q, c, rfl, _, hm, h4⟩ := h
  have CELL := Lib.hid h4
  have HVL := Lib.hid hvl
  have hmx : n ≤ 9223372036854775807 := by unfold maxLen at hm; omega
  have HW : Hid ((.func (.func g) #[] caps : Value) = .func (.func g) #[] caps) := Lib.hid rfl
  clear h4 hvl
  go_enter Tryz.func155, Tryz.ntmps155
  go_wp2
  go_loopw [8] (fun i wr => ∃ j : Nat, j ≤ n ∧ i = .int .i64 j ∧ Hid ((List.range j).any p = false) ∧ Hid (Below w.heap.size w wr)) (fun i _ => n - (intOf i).toNat)
  case atStart => exact ⟨0, Nat.zero_le _, rfl, Lib.hid rfl, Lib.hid (Below.refl _ _)⟩
  case round =>
    obtain ⟨j, hj, rfl, hF, hB⟩ := hrel
    by_cases hlt : j < n
    · have t0 : decide ((j : Int) < (n : Int)) = true := by simpa using hlt
      obtain ⟨b, o, rfl, hb, hc⟩ := CELL.out (by omega)
      have c0 := (hc.kept (hB.out.block b hb)) j (vs.getD j default) (by rw [List.getD_eq_getElem?_getD, List.getElem?_eq_getElem (by have := HVL.out; omega)]; rfl)
      obtain ⟨x, hx⟩ : ∃ x, x = vs.getD j default := ⟨_, rfl⟩
      have CALL := Lib.hid (hp.out j hlt wr hB.out)
      have NXT := Lib.hid (any_range_succ p j)
      have FULL : Hid (p j = true → (List.range n).any p = true) := Lib.hid fun h => List.any_eq_true.2 ⟨j, List.mem_range.2 hlt, h⟩
      rw [← hx] at c0 CALL
      clear hb hc hx
      cases hpj : p j with
      | true =>
        rw [hpj] at CALL
        have FT := Lib.hid (FULL.out hpj)
        clear hpj FULL NXT hF
        go_wp2_with ((refine wpList_call_slot (o := ⟨some 16, _, _, _, _, _⟩) rfl 11 _ _ rfl g caps rfl hg.out (#[x] ++ caps) (by simp [go_sem]) ?_; refine (CALL.out).mono ?_; rintro e w1 ⟨rfl, b1⟩; refine ⟨_, rfl, ?_⟩; simp only [Act.put, List.setIfInBounds_toArray, List.set_cons_succ, List.set_cons_zero]))
        have B1 := Lib.hid (hB.out.trans (b1.mono hB.out.size))
        clear b1
        go_wp2
        first | go_ret | skip
        exact ⟨⟨_, rfl, by rw [FT.out]; exact decide_eq_true (by omega)⟩, B1.out⟩
      | false =>
        rw [hpj] at CALL
        have NF : Hid ((List.range (j + 1)).any p = false) := Lib.hid (by rw [NXT.out, hF.out, hpj]; rfl)
        clear hpj FULL NXT hF
        go_wp2_with ((refine wpList_call_slot (o := ⟨some 16, _, _, _, _, _⟩) rfl 11 _ _ rfl g caps rfl hg.out (#[x] ++ caps) (by simp [go_sem]) ?_; refine (CALL.out).mono ?_; rintro e w1 ⟨rfl, b1⟩; refine ⟨_, rfl, ?_⟩; simp only [Act.put, List.setIfInBounds_toArray, List.set_cons_succ, List.set_cons_zero]))
        have B1 := Lib.hid (hB.out.trans (b1.mono hB.out.size))
        clear b1
        go_wp2
        go_roundw
        case rel => exact ⟨j + 1, by omega, by go_num, NF, B1⟩
        case measure => simp [intOf]; omega
    · obtain rfl : j = n := by omega
      have t0 : decide ((j : Int) < (j : Int)) = false := by simp
      clear CELL
      go_wp2
      first | go_ret | skip
      exact ⟨⟨-1, rfl, by rw [hF.out]; rfl⟩, hB.out⟩
theorem containsL_any (g : Nat) (caps : Array Value) (hg : Hid (∀ vs w, (callFunc g vs).run Tryz.prog w = .ok (.enter g vs) w)) (v : Value) (vs : List Value) (n : Nat) (p : Nat → Bool) (w : World) (h : SliceAt w 1 v n vs)
    (hp : Hid (∀ j, j < n → ∀ W, Below w.heap.size w W → Calls Tryz.prog g (#[vs.getD j default] ++ caps) W fun e w' => e = .returned (.bool (p j)) ∧ Below W.heap.size W w')) :
    Calls Tryz.prog 127 #[v, .func (.func g) #[] caps] w (BRw ((List.range n).any p) w) := by
  have C := Lib.hid (idxL_any g caps hg v vs n p w h hp)
  have E : Hid (∀ b w', b = (List.range n).any p → Below w.heap.size w w' → BRw ((List.range n).any p) w (.returned (.bool b)) w') := Lib.hid fun b w' e h => ⟨by rw [e], h⟩
  generalize BRw ((List.range n).any p) w = Z at *
  clear h hp
  go_enter Tryz.func127, Tryz.ntmps127
  go_wp2_with fail
  refine C.out.mono ?_
  rintro e w1 ⟨⟨r, rfl, hr⟩, b1⟩
  have F := Lib.hid (E.out _ _ hr b1)
  clear b1 hr C
  go_wp2
  first | go_ret | skip
  exact F.out
end Go.Proofs.YtncifeeinogcnaaGreatDoor
