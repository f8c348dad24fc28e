/- Texts of this seat, one behind the other: CkA, CkB. -/
import Derived.Test.YtncifeeinogcnaaDoorKn04
import Derived.Test.YtncifeeinogcnaaDoorKn08
import Derived.Lib.Hide
import Derived.Deep.QuietTactic
import Derived.BigQuiet
import Derived.Test.YtncifeeinogcnaaDoorKn02
import Derived.Shelf.SlicesQ.IndexFunc
import Derived.IntWalk
/- Which nodes are a type's: the contracts of rightCon and right. -/
set_option maxRecDepth 100000
namespace Go.Proofs.YtncifeeinogcnaaDoor
open Go.RowKit Go.Lib Go.Proofs.TreeMath Go.Proofs.LexMath

def sArrow : ByteArray := ⟨#[45, 62]⟩
def sInt : ByteArray := ⟨#[105, 110, 116]⟩
def sText : ByteArray := ⟨#[116, 101, 120, 116]⟩
def sRef : ByteArray := ⟨#[114, 101, 102]⟩
def nameB (s : ByteArray) : Bool := rightB ⟨2, s, 0, 0⟩
def conB (s : ByteArray) (c : Int) : Bool :=
  if s = sArrow then c == 2 else if s = sInt then c == 0 else if s = sText then c == 0 else if s = sRef then c == 1 else decide (c ≤ 8) && nameB s
def rightN (m : Nd) : Bool :=
  if m.kind = 31 then decide (0 ≤ m.num) && decide (m.num ≤ 1048576) && (m.kids == 0) && (m.text.data.toList.isEmpty)
  else if m.kind = 32 then (m.num == 0) && conB m.text m.kids else false
def BRw (b : Bool) (w : World) (e : Ending) (w' : World) : Prop := e = .returned (.bool b) ∧ Below w.heap.size w w'
theorem str_ne {s t : ByteArray} (h : s ≠ t) : (s.toList == t.toList) = false := by
  rw [beq_eq_false_iff_ne]
  intro e
  exact h (Go.WideShapes.bytes_inj (by simpa [ByteArray.toList_eq] using e))
theorem str_ne' {s t : ByteArray} (h : s ≠ t) : ¬ s.toList = t.toList := fun e => by
  have := str_ne h
  rw [e] at this
  simp at this
theorem tl_arrow : sArrow.toList = [45, 62] := by rw [ByteArray.toList_eq]; rfl
theorem tl_int : sInt.toList = [105, 110, 116] := by rw [ByteArray.toList_eq]; rfl
theorem tl_text : sText.toList = [116, 101, 120, 116] := by rw [ByteArray.toList_eq]; rfl
theorem tl_ref : sRef.toList = [114, 101, 102] := by rw [ByteArray.toList_eq]; rfl
set_option maxHeartbeats 2000000 in
theorem rightCon_any (m : Nd) (w : World) (hs : m.text.size ≤ 100000000) : Calls Tryd.prog 42 #[m.val] w (BRw (conB m.text m.kids) w) := by
  obtain ⟨k, s, nm, c⟩ := m
  simp only at hs ⊢
  have E : ∀ b, conB s c = b → Hid (∀ w', Below w.heap.size w w' → BRw (conB s c) w (.returned (.bool b)) w') := fun b hb => Lib.hid fun w' h => ⟨by rw [hb], h⟩
  have BA : Hid (Below w.heap.size w (w.alloc (.cells #[.int .i64 k, .string s, .int .i64 nm, .int .i64 c] 42))) := Lib.hid ((Below.refl _ _).alloc (Nat.le_refl _) _)
  have ALL : ∀ b : Bool, b = conB s c → Hid (∀ w', Below w.heap.size w w' → BRw (conB s c) w (.returned (.bool b)) w') := fun b hb => Lib.hid fun w' h => ⟨by rw [hb], h⟩
  unfold Nd.val
  simp only
  by_cases h1 : s = sArrow
  · have A := ALL (c == 2) (by unfold conB; rw [if_pos h1])
    subst h1
    generalize conB sArrow c = Z at *
    unfold sArrow at *
    clear E ALL hs
    cases hz : (c == 2) with
    | true => rw [hz] at A; go_enter Tryd.func42, Tryd.ntmps42; go_wp2; go_ret; exact A.out _ BA.out
    | false => rw [hz] at A; go_enter Tryd.func42, Tryd.ntmps42; go_wp2; go_ret; exact A.out _ BA.out
  · have d1 := str_ne h1
    rw [tl_arrow] at d1
    have d1' := str_ne' h1
    rw [tl_arrow] at d1'
    have D1 := Lib.hid h1
    by_cases h2 : s = sInt
    · have A := ALL (c == 0) (by unfold conB; rw [if_neg h1, if_pos h2])
      subst h2
      generalize conB sInt c = Z at *
      unfold sArrow sInt at *
      clear E ALL hs h1
      cases hz : (c == 0) with
      | true => rw [hz] at A; go_enter Tryd.func42, Tryd.ntmps42; go_wp2; go_ret; exact A.out _ BA.out
      | false => rw [hz] at A; go_enter Tryd.func42, Tryd.ntmps42; go_wp2; go_ret; exact A.out _ BA.out
    · have d2 := str_ne h2
      rw [tl_int] at d2
      have d2' := str_ne' h2
      rw [tl_int] at d2'
      have D2 := Lib.hid h2
      by_cases h3 : s = sText
      · have A := ALL (c == 0) (by unfold conB; rw [if_neg h1, if_neg h2, if_pos h3])
        subst h3
        generalize conB sText c = Z at *
        unfold sArrow sInt sText at *
        clear E ALL hs h1 h2
        cases hz : (c == 0) with
        | true => rw [hz] at A; go_enter Tryd.func42, Tryd.ntmps42; go_wp2; go_ret; exact A.out _ BA.out
        | false => rw [hz] at A; go_enter Tryd.func42, Tryd.ntmps42; go_wp2; go_ret; exact A.out _ BA.out
      · have d3 := str_ne h3
        rw [tl_text] at d3
        have d3' := str_ne' h3
        rw [tl_text] at d3'
        by_cases h4 : s = sRef
        · have A := ALL (c == 1) (by unfold conB; rw [if_neg h1, if_neg h2, if_neg h3, if_pos h4])
          subst h4
          generalize conB sRef c = Z at *
          unfold sArrow sInt sText sRef at *
          clear E ALL hs h1 h2 h3
          cases hz : (c == 1) with
          | true => rw [hz] at A; go_enter Tryd.func42, Tryd.ntmps42; go_wp2; go_ret; exact A.out _ BA.out
          | false => rw [hz] at A; go_enter Tryd.func42, Tryd.ntmps42; go_wp2; go_ret; exact A.out _ BA.out
        · have d4 := str_ne h4
          rw [tl_ref] at d4
          have d4' := str_ne' h4
          rw [tl_ref] at d4'
          have A := ALL (decide (c ≤ 8) && nameB s) (by unfold conB; rw [if_neg h1, if_neg h2, if_neg h3, if_neg h4])
          have R := Lib.hid (fun W => Lx.right_any ⟨2, s, 0, 0⟩ W hs)
          unfold Lx.tokV at R
          simp only at R
          have hb : rightB ⟨2, s, 0, 0⟩ = nameB s := rfl
          rw [hb] at R
          generalize conB s c = Z at *
          generalize nameB s = y at *
          unfold sArrow sInt sText sRef at *
          clear E ALL hs h1 h2 h3 h4 hb D1 D2
          cases hz : decide (c ≤ 8) with
          | false =>
            rw [hz] at A
            have A : Hid (∀ w', Below w.heap.size w w' → BRw Z w (.returned (.bool false)) w') := A
            go_enter Tryd.func42, Tryd.ntmps42; go_wp2; go_ret; exact A.out _ BA.out
          | true =>
            rw [hz] at A
            have A : Hid (∀ w', Below w.heap.size w w' → BRw Z w (.returned (.bool y)) w') := A
            go_enter Tryd.func42, Tryd.ntmps42
            go_wp2_with fail
            refine (R.out _).mono ?_
            rintro e w1 ⟨rfl, b1⟩
            have B1 := Lib.hid b1
            clear b1 R
            go_wp2
            go_ret
            exact A.out _ (BA.out.trans (B1.out.mono BA.out.size))
end Go.Proofs.YtncifeeinogcnaaDoor
/- Whether nodes are a type: the contract of Check. -/
set_option maxRecDepth 100000
namespace Go.Proofs.YtncifeeinogcnaaDoor
open Go.Shelf Go.RowKit Go.Lib Go.Sort Go.Proofs.TreeMath Go.Proofs.LexMath

def containsLays_ren : Go.Shelf.Ren := ⟨fun | 8 => 29 | 6 => 43 | n => n, fun | 22 => 36 | 23 => 42 | 25 => 63 | 4 => 4 | 3 => 3 | 0 => 0 | n => n, fun | n => n⟩
theorem containsLays : Go.Proofs.SlLaysH0.n8 Tryd.prog containsLays_ren where
  mixed := by kernel_rfl
  f6 := ⟨ "slices.IndexFunc[[]triglyph/api.Node,triglyph/api.Node]", by decide, Tryd.func43.trans (congrArg some (by kernel_rfl))⟩
  f8 := ⟨ "slices.ContainsFunc[[]triglyph/api.Node,triglyph/api.Node]", by decide, Tryd.func29.trans (congrArg some (by kernel_rfl))⟩
  t0 := Tryd.underlying0
  a0 := Tryd.isAgg0
  z0 := Tryd.sizeOf0
  v0 := Tryd.zeroValue0
  t3 := Tryd.underlying3
  a3 := Tryd.isAgg3
  z3 := Tryd.sizeOf3
  v3 := Tryd.zeroValue3
  t4 := Tryd.underlying4
  a4 := Tryd.isAgg4
  z4 := Tryd.sizeOf4
  v4 := Tryd.zeroValue4
  t22 := Tryd.underlying36
  a22 := Tryd.isAgg36
  z22 := Tryd.sizeOf36
  v22 := Tryd.zeroValue36
  t25 := Tryd.underlying63
  a25 := Tryd.isAgg63
  z25 := Tryd.sizeOf63
  v25 := Tryd.zeroValue63
set_option maxHeartbeats 2000000 in
theorem rightn_any (m : Nd) (w : World) (hs : m.text.size ≤ 100000000) : Calls Tryd.prog 27 #[m.val] w (BRw (rightN m) w) := by
  have CON := Lib.hid (fun W => rightCon_any m W hs)
  obtain ⟨k, s, nm, c⟩ := m
  have ALL : ∀ b : Bool, rightN ⟨k, s, nm, c⟩ = b → Hid (∀ w', Below w.heap.size w w' → BRw (rightN ⟨k, s, nm, c⟩) w (.returned (.bool b)) w') := fun b hb => Lib.hid fun w' h => ⟨by rw [hb], h⟩
  have BA : Hid (Below w.heap.size w (w.alloc (.cells #[.int .i64 k, .string s, .int .i64 nm, .int .i64 c] 42))) := Lib.hid ((Below.refl _ _).alloc (Nat.le_refl _) _)
  unfold Nd.val at *
  simp only at hs CON ⊢
  have hse : s.toList.isEmpty = s.data.toList.isEmpty := by rw [ByteArray.toList_eq]
  by_cases h1 : k = 31
  · subst h1
    have R : rightN ⟨31, s, nm, c⟩ = (decide (0 ≤ nm) && decide (nm ≤ 1048576) && (c == 0) && s.data.toList.isEmpty) := rfl
    rw [← hse] at R
    clear CON hs hse
    cases a1 : decide (0 ≤ nm) with
    | false =>
      have A := ALL false (by rw [R, a1]; rfl)
      generalize rightN ⟨31, s, nm, c⟩ = Z at *
      clear R ALL
      go_enter Tryd.func27, Tryd.ntmps27
      go_wp2
      go_ret
      exact A.out _ BA.out
    | true =>
      cases a2 : decide (nm ≤ 1048576) with
      | false =>
        have A := ALL false (by rw [R, a1, a2]; rfl)
        generalize rightN ⟨31, s, nm, c⟩ = Z at *
        clear R ALL
        go_enter Tryd.func27, Tryd.ntmps27
        go_wp2
        go_ret
        exact A.out _ BA.out
      | true =>
        cases a3 : (c == 0) with
        | false =>
          have A := ALL false (by rw [R, a1, a2, a3]; rfl)
          generalize rightN ⟨31, s, nm, c⟩ = Z at *
          clear R ALL
          go_enter Tryd.func27, Tryd.ntmps27
          go_wp2
          go_ret
          exact A.out _ BA.out
        | true =>
          cases a4 : s.toList.isEmpty with
          | false =>
            have A := ALL false (by rw [R, a1, a2, a3, a4]; rfl)
            have a5 : ¬ s.toList = [] := by intro e; rw [e] at a4; simp at a4
            generalize rightN ⟨31, s, nm, c⟩ = Z at *
            clear R ALL
            go_enter Tryd.func27, Tryd.ntmps27
            go_wp2
            go_ret
            exact A.out _ BA.out
          | true =>
            have A := ALL true (by rw [R, a1, a2, a3, a4]; rfl)
            have a5 : s.toList = [] := by simpa using a4
            generalize rightN ⟨31, s, nm, c⟩ = Z at *
            clear R ALL
            go_enter Tryd.func27, Tryd.ntmps27
            go_wp2
            go_ret
            exact A.out _ BA.out
  · by_cases h2 : k = 32
    · subst h2
      have R : rightN ⟨32, s, nm, c⟩ = ((nm == 0) && conB s c) := rfl
      clear hse hs h1
      cases a1 : (nm == 0) with
      | false =>
        have A := ALL false (by rw [R, a1]; rfl)
        generalize rightN ⟨32, s, nm, c⟩ = Z at *
        clear R ALL CON
        go_enter Tryd.func27, Tryd.ntmps27
        go_wp2
        go_ret
        exact A.out _ BA.out
      | true =>
        have A := ALL (conB s c) (by rw [R, a1]; rfl)
        generalize rightN ⟨32, s, nm, c⟩ = Z at *
        generalize conB s c = y at *
        clear R ALL
        go_enter Tryd.func27, Tryd.ntmps27
        go_wp2_with fail
        refine (CON.out _).mono ?_
        rintro e w1 ⟨rfl, b1⟩
        have B1 := Lib.hid b1
        clear b1 CON
        go_wp2
        go_ret
        exact A.out _ (BA.out.trans (B1.out.mono BA.out.size))
    · have A := ALL false (by unfold rightN; rw [if_neg h1, if_neg h2])
      have t1 : (k == 31) = false := by simpa using h1
      have t2 : (k == 32) = false := by simpa using h2
      generalize rightN ⟨k, s, nm, c⟩ = Z at *
      clear ALL CON hs hse h1 h2
      go_enter Tryd.func27, Tryd.ntmps27
      go_wp2
      go_ret
      exact A.out _ BA.out
/-- A node whose text is not too long for the model. -/
abbrev SNd := {f : Nd // f.text.size ≤ 100000000}
instance : Inhabited SNd := ⟨⟨⟨31, ⟨#[]⟩, 0, 0⟩, by decide⟩⟩
def SmallN (fs : List Nd) : Prop := ∀ f ∈ fs, f.text.size ≤ 100000000
theorem wrongn_any (x : SNd) (W w : World) (hb : Below w.heap.size w W) : Calls Tryd.prog 26 #[x.1.val] W fun e w' => e = .returned (.bool (!rightN x.1)) ∧ Below w.heap.size w w' := by
  have C := Lib.hid (fun W => rightn_any x.1 W x.2)
  have HB := Lib.hid hb
  obtain ⟨⟨k, s, nm, c⟩, _⟩ := x
  simp only at C ⊢
  generalize rightN ⟨k, s, nm, c⟩ = r at *
  unfold Nd.val at C ⊢
  simp only at C ⊢
  clear hb
  go_enter Tryd.func26, Tryd.ntmps26
  go_wp2_with fail
  refine (C.out _).mono ?_
  rintro e w1 ⟨rfl, b1⟩
  have B1 := Lib.hid b1
  clear b1
  go_wp2
  go_ret
  exact ⟨rfl, (HB.out.alloc HB.out.size _).trans (B1.out.mono (by have := HB.out.size; simp; omega))⟩
theorem attachn_any (fs : List Nd) (h : ∀ f ∈ fs, f.text.size ≤ 100000000) (p : Nd → Bool) : ((fs.attachWith _ h).any fun x : SNd => p x.1) = fs.any p := by
  induction fs with
  | nil => rfl
  | cons f fs ih => rw [List.attachWith_cons, List.any_cons, List.any_cons, ih]
theorem IndexFuncN_zero (g : Value) (p : Option Addr) (c : Nat) (w : World) : Calls Tryd.prog 43 #[.slice p 0 c, g] w fun e w' => e = .returned (.int .i64 (-1)) ∧ w = w' := by
  go_enter Tryd.func43, Tryd.ntmps43
  go_wp2
  refine wp_loop_rounds 1 ?_
  rw [rounds_succ]
  go_wp2
  go_ret
  exact ⟨rfl, rfl⟩
theorem containsN_zero (p : Option Addr) (c : Nat) (g : Value) (w : World) : Calls Tryd.prog 29 #[.slice p 0 c, g] w fun e w' => e = .returned (.bool false) ∧ w = w' := by
  go_enter Tryd.func29, Tryd.ntmps29
  go_wp2_with fail
  refine (IndexFuncN_zero _ _ _ _).mono ?_
  rintro e w1 ⟨rfl, rfl⟩
  go_wp2
  go_ret
  exact ⟨rfl, rfl⟩
theorem CellsIn.encN {w : World} {b off : Nat} {fs : List Nd} (h : CellsIn w b off (nodeCells fs)) (j : Nat) (hj : j < fs.length) (i : Nat) (v : Value) (hv : (Nd.cells fs[j]!)[i]? = some v) : w.cell? ⟨b, off + j * 4 + i, none⟩ = some v := by
  have hi : i < 4 := by
    have := (List.getElem?_eq_some_iff.1 hv).1
    simpa [Nd.cells] using this
  have := nodeCells_get fs j hj i hi
  rw [List.getD_eq_getElem?_getD, List.getElem?_eq_getElem hj, Option.getD_some] at this
  rw [getElem!_pos fs j hj] at hv
  rw [Nat.add_assoc]
  exact h _ _ (this.trans hv)
theorem containsN_some (b off n c : Nat) (fs : List Nd) (w : World) (hl : fs.length = n) (hn : n ≤ 1000000) (hs : ∀ f ∈ fs, f.text.size ≤ 100000000) (hb : b < w.heap.size) (hc : CellsIn w b off (nodeCells fs)) : Calls Tryd.prog 29 #[.slice (some ⟨b, off, none⟩) n c, .func (.func 26) #[] #[]] w (BRw (fs.any fun f => !rightN f) w) := by
  have eg : ∀ args w, (callFunc 26 args).run Tryd.prog w = .ok (.enter 26 args) w := enters_of Tryd.func26 (by kernel_rfl) rfl
  have hl2 : (fs.attachWith _ hs).length = n := by rw [List.length_attachWith, hl]
  have hcon := AnyQ.slices_ContainsFunc containsLays 4 Tryd.isAgg42 Tryd.sizeOf42 (fun x : SNd => Nd.cells x.1) (fun _ => rfl) (fun x : SNd => !rightN x.1) 26 #[] eg b off n c (fs.attachWith _ hs) w
    (fun W x hW => wrongn_any x W w hW) (by rw [hl2]; exact Nat.le_refl _) (by omega) hb (fun j hj i v hi => by
      rw [hl2, ← hl] at hj
      refine hc.encN j hj i v ?_
      rw [getElem!_pos _ j (by rw [List.length_attachWith]; exact hj), List.getElem_attachWith] at hi
      rw [getElem!_pos fs j hj]
      exact hi)
  change Calls Tryd.prog 29 _ _ _ at hcon
  rw [List.take_of_length_le (by rw [hl2]; exact Nat.le_refl _), attachn_any fs hs (fun f => !rightN f)] at hcon
  exact hcon
theorem containsN_any (v : Value) (fs : List Nd) (w : World) (h : NodesAt w v fs) (hn : fs.length ≤ 1000000) (hs : SmallN fs) : Calls Tryd.prog 29 #[v, .func (.func 26) #[] #[]] w (BRw (fs.any fun f => !rightN f) w) := by
  obtain ⟨_, p, c, rfl, _, _, hp⟩ := h
  rcases fs with _ | ⟨x, fs⟩
  · exact (containsN_zero p c _ w).mono fun e w' ⟨he, hw⟩ => ⟨he, by rw [← hw]; exact Below.refl _ _⟩
  · obtain ⟨b, off, rfl, hb, hc⟩ := hp (by simp)
    exact containsN_some b off _ c (x :: fs) w rfl hn hs hb hc
/-- Are these nodes a type? -/
def tyB (ns : List Nd) : Bool := decide (ns.length ≤ 4000) && wholeB (kk ns) && ns.all rightN
def CkP (ns : List Nd) (w : World) (e : Ending) (w' : World) : Prop := e = .returned (.int .i64 (if tyB ns = true then 0 else 90)) ∧ Below w.heap.size w w'
set_option maxHeartbeats 2000000 in
theorem check_any (v : Value) (ns : List Nd) (w : World) (h : NodesAt w v ns) (hn : ns.length ≤ 1000000) (hs : SmallN ns) : Calls Tryd.prog 14 #[v] w (CkP ns w) := by
  have WH := Lib.hid (fun W (hb : Below w.heap.size w W) => whole_any v ns W (h.below hb) hn)
  have CN := Lib.hid (fun W (hb : Below w.heap.size w W) => containsN_any v ns W (h.below hb) hn hs)
  have hna : (ns.any fun f => !rightN f) = !(ns.all rightN) := by rw [List.not_all_eq_any_not]
  have ALL : ∀ b : Int, (if tyB ns = true then (0 : Int) else 90) = b → Hid (∀ w', Below w.heap.size w w' → CkP ns w (.returned (.int .i64 b)) w') := fun b hb => Lib.hid fun w' h => ⟨by rw [hb], h⟩
  obtain ⟨q, c, rfl⟩ : ∃ q c, v = .slice q ns.length c := by obtain ⟨_, q, c, e, _⟩ := h; exact ⟨q, c, e⟩
  have hT : tyB ns = (decide (ns.length ≤ 4000) && wholeB (kk ns) && ns.all rightN) := rfl
  obtain ⟨l, hl⟩ : ∃ l, l = ns.length := ⟨_, rfl⟩
  rw [← hl] at WH CN hT ⊢
  have hn9 : l ≤ 1000000 := by omega
  rw [hna] at CN
  generalize ns.all rightN = y at *
  generalize wholeB (kk ns) = z at *
  clear h hs hn hl hna
  by_cases h1 : 4000 < l
  · have A := ALL 90 (by rw [hT, decide_eq_false (by omega)]; rfl)
    have t1 : decide ((4000 : Int) < (l : Int)) = true := by simp; omega
    generalize CkP ns w = Z at *
    clear hT ALL WH CN
    go_enter Tryd.func14, Tryd.ntmps14
    go_wp2
    first | go_ret | skip
    exact A.out _ (Below.refl _ _)
  · have t1 : decide ((4000 : Int) < (l : Int)) = false := by simp; omega
    have tl : decide (l ≤ 4000) = true := decide_eq_true (by omega)
    cases z with
    | false =>
      have A := ALL 90 (by rw [hT, tl]; rfl)
      generalize CkP ns w = Z at *
      clear hT ALL CN tl
      go_enter Tryd.func14, Tryd.ntmps14
      go_wp2_with fail
      refine (WH.out _ (Below.refl _ _)).mono ?_
      rintro e w1 ⟨rfl, rfl⟩
      go_wp2
      first | go_ret | skip
      exact A.out _ (Below.refl _ _)
    | true =>
      have A := ALL (if y = true then 0 else 90) (by rw [hT, tl]; cases y <;> rfl)
      clear hT ALL tl
      go_enter Tryd.func14, Tryd.ntmps14
      go_wp2_with fail
      refine (WH.out _ (Below.refl _ _)).mono ?_
      rintro e w1 ⟨rfl, rfl⟩
      go_wp2_with fail
      refine (CN.out _ (Below.refl _ _)).mono ?_
      rintro e w2 ⟨rfl, b2⟩
      have B2 := Lib.hid b2
      clear b2 WH CN
      cases y with
      | true =>
        have A : Hid (∀ w', Below w.heap.size w w' → CkP ns w (.returned (.int .i64 0)) w') := A
        go_wp2
        go_ret
        exact A.out _ B2.out
      | false =>
        have A : Hid (∀ w', Below w.heap.size w w' → CkP ns w (.returned (.int .i64 90)) w') := A
        go_wp2
        go_ret
        exact A.out _ B2.out
end Go.Proofs.YtncifeeinogcnaaDoor
