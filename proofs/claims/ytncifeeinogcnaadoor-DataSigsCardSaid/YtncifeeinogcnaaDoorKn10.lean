/- Texts of this seat, one behind the other: DaA. -/
import Derived.Test.YtncifeeinogcnaaDoorKn01
import Derived.Test.YtncifeeinogcnaaDoorKn09
/- Declarations in a world. -/
set_option maxRecDepth 100000
namespace Go.Proofs.YtncifeeinogcnaaDoor
open Go.Shelf Go.RowKit Go.Lib Go.Sort Go.Proofs.TreeMath

/-- A constructor: its name, what holds its parts, and these. -/
structure Ct where
  name : ByteArray
  av : Value
  args : List (List Nd)
  deriving Inhabited
/-- A declaration: its name, how many parameters, what holds its constructors, and these. -/
structure Dt where
  name : ByteArray
  params : Int
  cv : Value
  cons : List Ct
  deriving Inhabited
def Ct.cells (c : Ct) : List Value := [.string c.name, c.av]
def Ct.val (c : Ct) : Value := .agg #[.string c.name, c.av]
def Dt.cells (d : Dt) : List Value := [.string d.name, .int .i64 d.params, d.cv]
def Dt.val (d : Dt) : Value := .agg #[.string d.name, .int .i64 d.params, d.cv]
def CtsAt (w : World) (v : Value) (cs : List Ct) : Prop := SliceAt w 2 v cs.length (cs.flatMap Ct.cells) ∧ ∀ c ∈ cs, ListsAt w c.av c.args
def DtsAt (w : World) (v : Value) (ds : List Dt) : Prop := SliceAt w 3 v ds.length (ds.flatMap Dt.cells) ∧ ∀ d ∈ ds, CtsAt w d.cv d.cons
theorem CtsAt.below {w w' : World} {v : Value} {cs : List Ct} (h : CtsAt w v cs) (b : Below w.heap.size w w') : CtsAt w' v cs := ⟨h.1.below b, fun c hc => (h.2 c hc).below b⟩
theorem DtsAt.below {w w' : World} {v : Value} {ds : List Dt} (h : DtsAt w v ds) (b : Below w.heap.size w w') : DtsAt w' v ds := ⟨h.1.below b, fun d hd => (h.2 d hd).below b⟩
theorem flat_get {α : Type} [Inhabited α] (f : α → List Value) (k : Nat) (hk : ∀ x, (f x).length = k) (l : List α) (i : Nat) (hi : i < l.length) (r : Nat) (hr : r < k) : (l.flatMap f)[i * k + r]? = (f (l.getD i default))[r]? := by
  induction l generalizing i with
  | nil => simp at hi
  | cons a l ih =>
    rw [List.flatMap_cons]
    cases i with
    | zero =>
      rw [Nat.zero_mul, Nat.zero_add, List.getElem?_append_left (by rw [hk]; exact hr)]
      rfl
    | succ i =>
      rw [List.getElem?_append_right (by rw [hk, Nat.succ_mul]; omega), hk, List.getD_cons_succ, ← ih i (by simpa using hi)]
      congr 1
      rw [Nat.succ_mul]; omega
theorem getD_mem {α : Type} [Inhabited α] (l : List α) (i : Nat) (hi : i < l.length) : l.getD i default ∈ l := by
  rw [List.getD_eq_getElem?_getD, List.getElem?_eq_getElem hi]; exact List.getElem_mem hi
theorem CtsAt.cell {w : World} {v : Value} {cs : List Ct} (h : CtsAt w v cs) (i : Nat) (hi : i < cs.length) : ∃ b off c, v = .slice (some ⟨b, off, none⟩) cs.length c ∧ b < w.heap.size ∧ w.cell? ⟨b, off + i * 2, none⟩ = some (.string (cs.getD i default).name) ∧ w.cell? ⟨b, off + i * 2 + 1, none⟩ = some (cs.getD i default).av := by
  obtain ⟨_, p, c, rfl, _, _, h4⟩ := h.1
  obtain ⟨b, off, rfl, hb, hc⟩ := h4 (by omega)
  have h0 := hc _ _ (flat_get Ct.cells 2 (fun _ => rfl) cs i hi 0 (by omega))
  have h1 := hc _ _ (flat_get Ct.cells 2 (fun _ => rfl) cs i hi 1 (by omega))
  exact ⟨b, off, c, rfl, hb, h0, h1⟩
theorem DtsAt.cell {w : World} {v : Value} {ds : List Dt} (h : DtsAt w v ds) (i : Nat) (hi : i < ds.length) : ∃ b off c, v = .slice (some ⟨b, off, none⟩) ds.length c ∧ b < w.heap.size ∧ w.cell? ⟨b, off + i * 3, none⟩ = some (.string (ds.getD i default).name) ∧ w.cell? ⟨b, off + i * 3 + 1, none⟩ = some (.int .i64 (ds.getD i default).params) ∧ w.cell? ⟨b, off + i * 3 + 2, none⟩ = some (ds.getD i default).cv := by
  obtain ⟨_, p, c, rfl, _, _, h4⟩ := h.1
  obtain ⟨b, off, rfl, hb, hc⟩ := h4 (by omega)
  have h0 := hc _ _ (flat_get Dt.cells 3 (fun _ => rfl) ds i hi 0 (by omega))
  have h1 := hc _ _ (flat_get Dt.cells 3 (fun _ => rfl) ds i hi 1 (by omega))
  have h2 := hc _ _ (flat_get Dt.cells 3 (fun _ => rfl) ds i hi 2 (by omega))
  exact ⟨b, off, c, rfl, hb, h0, h1, h2⟩
theorem CtsAt.form {w : World} {v : Value} {cs : List Ct} (h : CtsAt w v cs) : ∃ p c, v = .slice p cs.length c := by obtain ⟨_, p, c, e, _⟩ := h.1; exact ⟨p, c, e⟩
theorem DtsAt.form {w : World} {v : Value} {ds : List Dt} (h : DtsAt w v ds) : ∃ p c, v = .slice p ds.length c := by obtain ⟨_, p, c, e, _⟩ := h.1; exact ⟨p, c, e⟩
theorem ListsAt.form {w : World} {v : Value} {Ls : List (List Nd)} (h : ListsAt w v Ls) : ∃ p c, v = .slice p Ls.length c := by obtain ⟨_, ⟨_, p, c, e, _⟩, _⟩ := h; exact ⟨p, c, e⟩
/-- Texts and lists that are not too long for the model. -/
def SmallC (c : Ct) : Prop := c.name.size ≤ 100000000 ∧ c.args.length ≤ 1000000 ∧ ∀ t ∈ c.args, t.length ≤ 1000000 ∧ SmallN t
def SmallD (d : Dt) : Prop := d.name.size ≤ 100000000 ∧ d.cons.length ≤ 1000000 ∧ ∀ c ∈ d.cons, SmallC c

/-! ### slices.ContainsFunc over lists of nodes: for whatever question -/
theorem any_range_succ (p : Nat → Bool) (j : Nat) : (List.range (j + 1)).any p = ((List.range j).any p || p j) := by simp [List.range_succ]
theorem idxL_any (g : Nat) (caps : Array Value) (hg : Hid (∀ vs w, (callFunc g vs).run Tryd.prog w = .ok (.enter g vs) w)) (v : Value) (vs : List Value) (n : Nat) (p : Nat → Bool) (w : World) (h : SliceAt w 1 v n vs)
    (hp : Hid (∀ j, j < n → ∀ W, Below w.heap.size w W → Calls Tryd.prog g (#[vs.getD j default] ++ caps) W fun e w' => e = .returned (.bool (p j)) ∧ Below W.heap.size W w')) :
    Calls Tryd.prog 77 #[v, .func (.func g) #[] caps] w fun e w' => (∃ r : Int, e = .returned (.int .i64 r) ∧ decide (0 ≤ r) = (List.range n).any p) ∧ Below w.heap.size w w' := by
  obtain ⟨hvl, q, c, rfl, _, hm, h4⟩ := h
  have CELL := Lib.hid h4
  have HVL := Lib.hid hvl
  have hmx : n ≤ 9223372036854775807 := by unfold maxLen at hm; omega
  have HW : Hid ((.func (.func g) #[] caps : Value) = .func (.func g) #[] caps) := Lib.hid rfl
  clear h4 hvl
  go_enter Tryd.func77, Tryd.ntmps77
  go_wp2
  go_loopw [8] (fun i wr => ∃ j : Nat, j ≤ n ∧ i = .int .i64 j ∧ Hid ((List.range j).any p = false) ∧ Hid (Below w.heap.size w wr)) (fun i _ => n - (intOf i).toNat)
  case atStart => exact ⟨0, Nat.zero_le _, rfl, Lib.hid rfl, Lib.hid (Below.refl _ _)⟩
  case round =>
    obtain ⟨j, hj, rfl, hF, hB⟩ := hrel
    by_cases hlt : j < n
    · have t0 : decide ((j : Int) < (n : Int)) = true := by simpa using hlt
      obtain ⟨b, o, rfl, hb, hc⟩ := CELL.out (by omega)
      have c0 := (hc.kept (hB.out.block b hb)) j (vs.getD j default) (by rw [List.getD_eq_getElem?_getD, List.getElem?_eq_getElem (by have := HVL.out; omega)]; rfl)
      obtain ⟨x, hx⟩ : ∃ x, x = vs.getD j default := ⟨_, rfl⟩
      have CALL := Lib.hid (hp.out j hlt wr hB.out)
      have NXT := Lib.hid (any_range_succ p j)
      have FULL : Hid (p j = true → (List.range n).any p = true) := Lib.hid fun h => List.any_eq_true.2 ⟨j, List.mem_range.2 hlt, h⟩
      rw [← hx] at c0 CALL
      clear hb hc hx
      cases hpj : p j with
      | true =>
        rw [hpj] at CALL
        have FT := Lib.hid (FULL.out hpj)
        clear hpj FULL NXT hF
        go_wp2_with ((refine wpList_call_slot (o := ⟨some 16, _, _, _, _, _⟩) rfl 11 _ _ rfl g caps rfl hg.out (#[x] ++ caps) (by simp [go_sem]) ?_; refine (CALL.out).mono ?_; rintro e w1 ⟨rfl, b1⟩; refine ⟨_, rfl, ?_⟩; simp only [Act.put, List.setIfInBounds_toArray, List.set_cons_succ, List.set_cons_zero]))
        have B1 := Lib.hid (hB.out.trans (b1.mono hB.out.size))
        clear b1
        go_wp2
        first | go_ret | skip
        exact ⟨⟨_, rfl, by rw [FT.out]; exact decide_eq_true (by omega)⟩, B1.out⟩
      | false =>
        rw [hpj] at CALL
        have NF : Hid ((List.range (j + 1)).any p = false) := Lib.hid (by rw [NXT.out, hF.out, hpj]; rfl)
        clear hpj FULL NXT hF
        go_wp2_with ((refine wpList_call_slot (o := ⟨some 16, _, _, _, _, _⟩) rfl 11 _ _ rfl g caps rfl hg.out (#[x] ++ caps) (by simp [go_sem]) ?_; refine (CALL.out).mono ?_; rintro e w1 ⟨rfl, b1⟩; refine ⟨_, rfl, ?_⟩; simp only [Act.put, List.setIfInBounds_toArray, List.set_cons_succ, List.set_cons_zero]))
        have B1 := Lib.hid (hB.out.trans (b1.mono hB.out.size))
        clear b1
        go_wp2
        go_roundw
        case rel => exact ⟨j + 1, by omega, by go_num, NF, B1⟩
        case measure => simp [intOf]; omega
    · obtain rfl : j = n := by omega
      have t0 : decide ((j : Int) < (j : Int)) = false := by simp
      clear CELL
      go_wp2
      first | go_ret | skip
      exact ⟨⟨-1, rfl, by rw [hF.out]; rfl⟩, hB.out⟩
theorem containsL_any (g : Nat) (caps : Array Value) (hg : Hid (∀ vs w, (callFunc g vs).run Tryd.prog w = .ok (.enter g vs) w)) (v : Value) (vs : List Value) (n : Nat) (p : Nat → Bool) (w : World) (h : SliceAt w 1 v n vs)
    (hp : Hid (∀ j, j < n → ∀ W, Below w.heap.size w W → Calls Tryd.prog g (#[vs.getD j default] ++ caps) W fun e w' => e = .returned (.bool (p j)) ∧ Below W.heap.size W w')) :
    Calls Tryd.prog 64 #[v, .func (.func g) #[] caps] w (BRw ((List.range n).any p) w) := by
  have C := Lib.hid (idxL_any g caps hg v vs n p w h hp)
  have E : Hid (∀ b w', b = (List.range n).any p → Below w.heap.size w w' → BRw ((List.range n).any p) w (.returned (.bool b)) w') := Lib.hid fun b w' e h => ⟨by rw [e], h⟩
  generalize BRw ((List.range n).any p) w = Z at *
  clear h hp
  go_enter Tryd.func64, Tryd.ntmps64
  go_wp2_with fail
  refine C.out.mono ?_
  rintro e w1 ⟨⟨r, rfl, hr⟩, b1⟩
  have F := Lib.hid (E.out _ _ hr b1)
  clear b1 hr C
  go_wp2
  first | go_ret | skip
  exact F.out
end Go.Proofs.YtncifeeinogcnaaDoor
