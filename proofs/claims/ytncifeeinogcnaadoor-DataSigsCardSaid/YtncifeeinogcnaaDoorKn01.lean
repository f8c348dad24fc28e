/- Texts of this seat, one behind the other: Math, Views, Forest. -/
import Derived.Test.YtncifeeinogcnaaDoorRows
import Derived.WalkKit
import Derived.ProofKit
import Derived.Below
import Derived.Deep.OwnRows
/- Trees stored as lists of nodes in preorder, as plain mathematics: only the nodes' numbers of kids. No Go here. -/
namespace Go.Proofs.TreeMath

/-- How many nodes are gone through until no tree is open any more; none if a node has no number of kids, or the nodes give out. -/
def scan : List Int → Nat → Option Nat
  | _, 0 => some 0
  | [], _ + 1 => none
  | k :: ks, o + 1 => if k < 0 then none else (scan ks (o + k.toNat)).map (· + 1)

theorem scan_zero (ks : List Int) : scan ks 0 = some 0 := by cases ks <;> rfl
theorem scan_cons (k : Int) (ks : List Int) (o : Nat) : scan (k :: ks) (o + 1) = if k < 0 then none else (scan ks (o + k.toNat)).map (· + 1) := rfl

theorem scan_le : ∀ (ks : List Int) (o n : Nat), scan ks o = some n → o ≤ n ∧ n ≤ ks.length := by
  intro ks
  induction ks with
  | nil => intro o n h; cases o with
    | zero => simp [scan] at h; omega
    | succ o => simp [scan] at h
  | cons k ks ih =>
    intro o n h
    cases o with
    | zero => simp [scan] at h; omega
    | succ o =>
      rw [scan_cons] at h
      split at h
      · simp at h
      · cases hs : scan ks (o + k.toNat) with
        | none => rw [hs] at h; simp at h
        | some m =>
          rw [hs] at h
          simp at h
          have := ih _ _ hs
          simp
          omega

theorem scan_add : ∀ (ks : List Int) (a b : Nat), scan ks (a + b) = (scan ks a).bind fun n => (scan (ks.drop n) b).map (n + ·) := by
  intro ks
  induction ks with
  | nil =>
    intro a b
    cases a with
    | zero => cases b <;> simp [scan]
    | succ a => simp [scan, Nat.succ_add]
  | cons k ks ih =>
    intro a b
    cases a with
    | zero => cases h : scan (k :: ks) b <;> simp [scan_zero, h]
    | succ a =>
      rw [Nat.succ_add, scan_cons, scan_cons]
      split
      · simp
      · rw [show a + b + k.toNat = (a + k.toNat) + b by omega, ih]
        cases h : scan ks (a + k.toNat) with
        | none => simp
        | some n =>
          simp only [Option.bind_some, Option.map_some, List.drop_succ_cons]
          cases scan (ks.drop n) b <;> simp
          omega

/-- Where one is when o trees that begin at m have been gone through; -1. -/
def fin (ks : List Int) (m o : Nat) : Int :=
  match scan (ks.drop m) o with
  | some n => ((m + n : Nat) : Int)
  | none => -1

theorem fin_zero (ks : List Int) (m : Nat) : fin ks m 0 = m := by simp [fin, scan_zero]
theorem fin_range (ks : List Int) (m o : Nat) (hm : m ≤ ks.length) : fin ks m o = -1 ∨ ((m + o : Nat) : Int) ≤ fin ks m o ∧ fin ks m o ≤ ks.length := by
  unfold fin
  cases h : scan (ks.drop m) o with
  | none => exact .inl rfl
  | some n =>
    have := scan_le _ _ _ h
    simp at this
    right
    simp
    omega
theorem fin_out (ks : List Int) (m o : Nat) (hm : ks.length ≤ m) : fin ks m (o + 1) = -1 := by
  unfold fin
  rw [List.drop_eq_nil_of_le hm]
  rfl
theorem drop_get (ks : List Int) (m : Nat) (hm : m < ks.length) : ks.drop m = ks.getD m 0 :: ks.drop (m + 1) := by
  rw [List.drop_eq_getElem_cons hm, List.getD_eq_getElem?_getD, List.getElem?_eq_getElem hm]
  rfl
theorem fin_neg (ks : List Int) (m o : Nat) (hm : m < ks.length) (hk : ks.getD m 0 < 0) : fin ks m (o + 1) = -1 := by
  unfold fin
  rw [drop_get ks m hm, scan_cons, if_pos hk]
theorem fin_step (ks : List Int) (m o : Nat) (hm : m < ks.length) (hk : 0 ≤ ks.getD m 0) : fin ks m (o + 1) = fin ks (m + 1) (o + (ks.getD m 0).toNat) := by
  unfold fin
  rw [drop_get ks m hm, scan_cons, if_neg (by omega)]
  cases scan (ks.drop (m + 1)) (o + (ks.getD m 0).toNat) <;> simp
  omega
theorem fin_many (ks : List Int) (m o : Nat) (hm : m ≤ ks.length) (h : (ks.length : Int) < m + o) : fin ks m o = -1 := by
  rcases fin_range ks m o hm with h1 | h1
  · exact h1
  · omega
/-- Where the tree that begins at an index ends; -1. -/
def endI (ks : List Int) (i : Int) : Int := if i < 0 then -1 else fin ks i.toNat 1
theorem endI_nat (ks : List Int) (m : Nat) : endI ks (m : Int) = fin ks m 1 := by simp [endI]; omega
theorem endI_out (ks : List Int) (i : Int) (h : i < 0 ∨ (ks.length : Int) ≤ i) : endI ks i = -1 := by
  unfold endI
  split
  · rfl
  · exact fin_out ks _ 0 (by omega)
/-- Exactly one tree? -/
def wholeB (ks : List Int) : Bool := endI ks 0 == (ks.length : Int)
theorem wholeB_iff (ks : List Int) : wholeB ks = true ↔ scan ks 1 = some ks.length := by
  simp only [wholeB, endI, fin]
  cases h : scan ks 1 with
  | none => simp [h]; try omega
  | some n => simp [h]; try omega
/-! ### The parts of a tree -/
/-! ### Trees put together -/
/-! ### How deep -/
/-! ### Whose kid -/
end Go.Proofs.TreeMath
/- Slices of nodes, of numbers and of such slices, as lists, in a world. -/
namespace Go.Proofs.YtncifeeinogcnaaDoor
open Go.RowKit

structure Nd where
  kind : Int
  text : ByteArray
  num : Int
  kids : Int
  deriving DecidableEq, Inhabited

def Nd.cells (n : Nd) : List Value := [.int .i64 n.kind, .string n.text, .int .i64 n.num, .int .i64 n.kids]
def nodeCells (ns : List Nd) : List Value := ns.flatMap Nd.cells
def intCells (xs : List Int) : List Value := xs.map (Value.int .i64)
def kk (ns : List Nd) : List Int := ns.map Nd.kids
/-- Cells, one behind the other. -/
def CellsIn (w : World) (b off : Nat) (cs : List Value) : Prop := ∀ j u, cs[j]? = some u → w.cell? ⟨b, off + j, none⟩ = some u
/-- A slice of n elements of so many cells each. -/
def SliceAt (w : World) (size : Nat) (v : Value) (n : Nat) (cs : List Value) : Prop :=
  cs.length = n * size ∧ ∃ p cap, v = .slice p n cap ∧ n ≤ cap ∧ cap ≤ maxLen ∧ (n ≠ 0 → ∃ b off, p = some ⟨b, off, none⟩ ∧ b < w.heap.size ∧ CellsIn w b off cs)
def NodesAt (w : World) (v : Value) (ns : List Nd) : Prop := SliceAt w 4 v ns.length (nodeCells ns)
def IntsAt (w : World) (v : Value) (xs : List Int) : Prop := SliceAt w 1 v xs.length (intCells xs)
def ListsAt (w : World) (v : Value) (Ls : List (List Nd)) : Prop := ∃ vs : List Value, SliceAt w 1 v Ls.length vs ∧ ∀ i, i < Ls.length → NodesAt w (vs.getD i default) (Ls.getD i [])

theorem length_nodeCells (ns : List Nd) : (nodeCells ns).length = ns.length * 4 := by
  induction ns with
  | nil => rfl
  | cons n ns ih =>
    unfold nodeCells at ih ⊢
    rw [List.flatMap_cons, List.length_append, ih]
    simp [Nd.cells]
    omega
theorem length_kk (ns : List Nd) : (kk ns).length = ns.length := by simp [kk]
theorem kk_get (ns : List Nd) (i : Nat) : (kk ns).getD i 0 = (ns.getD i default).kids := by
  simp only [kk, List.getD_eq_getElem?_getD, List.getElem?_map]
  cases ns[i]? <;> rfl
theorem nodeCells_append (a b : List Nd) : nodeCells (a ++ b) = nodeCells a ++ nodeCells b := by simp [nodeCells]
theorem nodeCells_get (ns : List Nd) (i : Nat) (hi : i < ns.length) (j : Nat) (hj : j < 4) : (nodeCells ns)[i * 4 + j]? = (Nd.cells (ns.getD i default))[j]? := by
  induction ns generalizing i with
  | nil => simp at hi
  | cons n ns ih =>
    unfold nodeCells at ih ⊢
    rw [List.flatMap_cons]
    have h4 : (Nd.cells n).length = 4 := rfl
    cases i with
    | zero => rw [List.getElem?_append_left (by omega)]; simp
    | succ i =>
      rw [List.getElem?_append_right (by omega), show (i + 1) * 4 + j - (Nd.cells n).length = i * 4 + j by omega, ih i (by simpa using hi)]
      simp
theorem nodeCells_one (ns : List Nd) : ∀ u ∈ nodeCells ns, u.oneCell' = true := by
  intro u hu
  obtain ⟨n, _, hn⟩ := List.mem_flatMap.1 hu
  simp [Nd.cells] at hn
  rcases hn with rfl | rfl | rfl | rfl <;> rfl
theorem take_get {α : Type} {l : List α} {n j : Nat} {u : α} (h : (l.take n)[j]? = some u) : l[j]? = some u := by
  rw [List.getElem?_take] at h
  split at h
  · exact h
  · simp at h
theorem CellsIn.node {w : World} {b off : Nat} {ns : List Nd} (h : CellsIn w b off (nodeCells ns)) (i : Nat) (hi : i < ns.length) :
    w.cell? ⟨b, off + i * 4, none⟩ = some (.int .i64 (ns.getD i default).kind) ∧ w.cell? ⟨b, off + i * 4 + 1, none⟩ = some (.string (ns.getD i default).text) ∧
    w.cell? ⟨b, off + i * 4 + 2, none⟩ = some (.int .i64 (ns.getD i default).num) ∧ w.cell? ⟨b, off + i * 4 + 3, none⟩ = some (.int .i64 (ns.getD i default).kids) := by
  have h0 := h _ _ (nodeCells_get ns i hi 0 (by omega))
  have h1 := h _ _ (nodeCells_get ns i hi 1 (by omega))
  have h2 := h _ _ (nodeCells_get ns i hi 2 (by omega))
  have h3 := h _ _ (nodeCells_get ns i hi 3 (by omega))
  exact ⟨h0, h1, h2, h3⟩
theorem CellsIn.kids {w : World} {b off : Nat} {ns : List Nd} (h : CellsIn w b off (nodeCells ns)) (i : Nat) (hi : i < ns.length) :
    w.cell? ⟨b, off + i * 4 + 3, none⟩ = some (.int .i64 ((kk ns).getD i 0)) := by
  rw [kk_get]
  exact (h.node i hi).2.2.2
theorem CellsIn.int {w : World} {b off : Nat} {xs : List Int} (h : CellsIn w b off (intCells xs)) (i : Nat) (hi : i < xs.length) :
    w.cell? ⟨b, off + i, none⟩ = some (.int .i64 (xs.getD i 0)) := by
  refine h i _ ?_
  simp [intCells, List.getElem?_eq_getElem hi, List.getD_eq_getElem?_getD]
theorem CellsIn.kept {w w' : World} {b off : Nat} {cs : List Value} (h : CellsIn w b off cs) (e : w'.heap[b]? = w.heap[b]?) : CellsIn w' b off cs :=
  fun j u hj => by rw [World.cell?_of_block (w := w) (w' := w') (a := ⟨b, off + j, none⟩) e]; exact h j u hj
theorem SliceAt.below {w w' : World} {size n : Nat} {v : Value} {cs : List Value} (h : SliceAt w size v n cs) (b : Below w.heap.size w w') : SliceAt w' size v n cs := by
  obtain ⟨h1, p, cap, rfl, h2, h3, h4⟩ := h
  refine ⟨h1, p, cap, rfl, h2, h3, fun hn => ?_⟩
  obtain ⟨bk, off, rfl, hb, hc⟩ := h4 hn
  exact ⟨bk, off, rfl, Nat.lt_of_lt_of_le hb b.size, hc.kept (b.block bk hb)⟩
theorem SliceAt.grown {w w' : World} {size n : Nat} {v : Value} {cs : List Value} {row : Option Nat} (h : SliceAt w size v n cs) (g : w.grownBy w' row) (hne : v.ownBlock = none ∨ v.ownBlock ≠ row) : SliceAt w' size v n cs := by
  obtain ⟨h1, p, cap, rfl, h2, h3, h4⟩ := h
  refine ⟨h1, p, cap, rfl, h2, h3, fun hn => ?_⟩
  obtain ⟨bk, off, rfl, hb, hc⟩ := h4 hn
  exact ⟨bk, off, rfl, Nat.lt_of_lt_of_le hb g.size, hc.kept (g.block bk hb (by simpa [Value.ownBlock] using hne))⟩
theorem SliceAt.of_owns {w : World} {base : Nat} {e : TypeId} {size n : Nat} {v : Value} {xs : List Value} (h : w.ownsRow base e size v n xs) : SliceAt w size v n xs := by
  obtain ⟨hl, h⟩ := h
  rcases h with ⟨rfl, rfl⟩ | ⟨g, cap, cur, rfl, hb, hg, hn, hm, hs, ht⟩
  · exact ⟨hl, none, 0, rfl, Nat.le_refl _, by unfold maxLen; omega, fun h => absurd rfl h⟩
  · refine ⟨hl, _, cap, rfl, hn, hm, fun _ => ⟨g, 0, rfl, ?_, ?_⟩⟩
    · exact (Array.getElem?_eq_some_iff.1 hg).1
    · intro j u hj
      rw [← ht] at hj
      have hj' := take_get hj
      simp [World.cell?, hg]
      simpa using hj'
theorem SliceAt.nil (w : World) (size : Nat) : SliceAt w size (.slice none 0 0) 0 [] := ⟨by simp, none, 0, rfl, Nat.le_refl _, by unfold maxLen; omega, fun h => absurd rfl h⟩
theorem NodesAt.below {w w' : World} {v : Value} {ns : List Nd} (h : NodesAt w v ns) (b : Below w.heap.size w w') : NodesAt w' v ns := SliceAt.below h b
theorem IntsAt.below {w w' : World} {v : Value} {xs : List Int} (h : IntsAt w v xs) (b : Below w.heap.size w w') : IntsAt w' v xs := SliceAt.below h b
theorem ListsAt.below {w w' : World} {v : Value} {Ls : List (List Nd)} (h : ListsAt w v Ls) (b : Below w.heap.size w w') : ListsAt w' v Ls := by
  obtain ⟨vs, h1, h2⟩ := h
  exact ⟨vs, h1.below b, fun i hi => (h2 i hi).below b⟩
end Go.Proofs.YtncifeeinogcnaaDoor
/- Lists of nodes as forests: plain mathematics. -/
namespace Go.Proofs.YtncifeeinogcnaaDoor
open Go.Proofs.TreeMath

/-- A list of trees: the first one's node, its kids, and the others. -/
inductive F where
  | nil
  | cons (n : Nd) (k r : F)
namespace F
def flat : F → List Nd
  | nil => []
  | cons n k r => n :: (k.flat ++ r.flat)
def cnt : F → Nat
  | nil => 0
  | cons _ _ r => r.cnt + 1
def sz : F → Nat
  | nil => 0
  | cons _ k r => 1 + k.sz + r.sz
/-- Each node has as many kids as it says. -/
def ok : F → Prop
  | nil => True
  | cons n k r => n.kids = k.cnt ∧ k.ok ∧ r.ok
theorem flat_length (f : F) : f.flat.length = f.sz := by
  induction f with
  | nil => rfl
  | cons n k r hk hr => simp [flat, sz, hk, hr]; omega
theorem cnt_le (f : F) : f.cnt ≤ f.sz := by
  induction f with
  | nil => exact Nat.le_refl _
  | cons n k r hk hr => simp only [cnt, sz]; omega
end F
theorem kk_append (a b : List Nd) : kk (a ++ b) = kk a ++ kk b := by simp [kk]
theorem kk_cons (n : Nd) (l : List Nd) : kk (n :: l) = n.kids :: kk l := rfl
theorem scan_flat (f : F) : f.ok → ∀ R : List Int, scan (kk f.flat ++ R) f.cnt = some f.sz := by
  induction f with
  | nil => intro _ R; exact scan_zero _
  | cons n k r hk hr =>
    rintro ⟨h1, h2, h3⟩ R
    have a := hk h2 (kk r.flat ++ R)
    have b := hr h3 R
    simp only [F.flat, F.cnt, F.sz, kk_cons, kk_append, List.cons_append, List.append_assoc]
    rw [scan_cons, if_neg (by omega), h1, Int.toNat_natCast, Nat.add_comm r.cnt, scan_add, a]
    simp only [Option.bind_some]
    have hl : (kk k.flat).length = k.sz := by rw [length_kk, F.flat_length]
    rw [← hl, List.drop_left, b, hl]
    simp
    omega
theorem forest_of : ∀ (m : Nat) (ns : List Nd) (o t : Nat), ns.length ≤ m → scan (kk ns) o = some t → ∃ f : F, f.ok ∧ f.cnt = o ∧ f.flat = ns.take t := by
  intro m
  induction m with
  | zero =>
    intro ns o t hm h
    obtain rfl : ns = [] := List.length_eq_zero_iff.1 (by omega)
    cases o with
    | zero => exact ⟨.nil, trivial, rfl, by simp [F.flat]⟩
    | succ o => simp [kk, scan] at h
  | succ m ih =>
    intro ns o t hm h
    cases o with
    | zero =>
      rw [scan_zero] at h
      obtain rfl : 0 = t := Option.some.inj h
      exact ⟨.nil, trivial, rfl, by simp [F.flat]⟩
    | succ o =>
      cases ns with
      | nil => simp [kk, scan] at h
      | cons n ns =>
        rw [kk_cons, scan_cons] at h
        split at h
        · simp at h
        · rename_i hn
          rw [Nat.add_comm o, scan_add] at h
          cases ha : scan (kk ns) n.kids.toNat with
          | none => rw [ha] at h; simp at h
          | some a =>
            rw [ha] at h
            simp only [Option.bind_some] at h
            have e : (kk ns).drop a = kk (ns.drop a) := by simp [kk]
            rw [e] at h
            cases hb : scan (kk (ns.drop a)) o with
            | none => rw [hb] at h; simp at h
            | some b =>
              rw [hb] at h
              simp only [Option.map_some, Option.some.injEq] at h
              subst h
              obtain ⟨k, k1, k2, k3⟩ := ih ns _ _ (by simp at hm; omega) ha
              obtain ⟨r, r1, r2, r3⟩ := ih (ns.drop a) _ _ (by simp at hm ⊢; omega) hb
              refine ⟨.cons n k r, ⟨by omega, k1, r1⟩, by simp [F.cnt, r2], ?_⟩
              simp only [F.flat, k3, r3]
              rw [List.take_succ_cons, List.take_add]
theorem doc_of (ns : List Nd) (h : wholeB (kk ns) = true) : ∃ f : F, f.ok ∧ f.cnt = 1 ∧ f.flat = ns := by
  obtain ⟨f, h1, h2, h3⟩ := forest_of ns.length ns 1 _ (Nat.le_refl _) ((wholeB_iff _).1 h)
  exact ⟨f, h1, h2, by rw [h3, length_kk, List.take_length]⟩
theorem whole_flat (f : F) (h : f.ok) (hc : f.cnt = 1) : wholeB (kk f.flat) = true := by
  rw [wholeB_iff]
  have := scan_flat f h []
  rw [List.append_nil, hc] at this
  rw [this, length_kk, F.flat_length]
/-- A forest within a list. -/
theorem fin_flat (f : F) (h : f.ok) (pre post : List Nd) : fin (kk (pre ++ (f.flat ++ post))) pre.length f.cnt = ((pre.length + f.sz : Nat) : Int) := by
  have e : (kk (pre ++ (f.flat ++ post))).drop pre.length = kk f.flat ++ kk post := by
    rw [kk_append, kk_append, List.drop_append_of_le_length (by rw [length_kk]; omega), List.drop_eq_nil_of_le (by rw [length_kk]; omega), List.nil_append]
  unfold fin
  rw [e, scan_flat f h]
end Go.Proofs.YtncifeeinogcnaaDoor
