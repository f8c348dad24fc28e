/- The printer: what it holds; after, fits. -/
import Derived.Test.YtbpenjdpalhmaaaLayS
import Derived.Test.YtbpenjdpalhmaaaFlt
import Derived.BigRegion
import Derived.Deep.RegionWith
import Derived.StillTailTactics
import Derived.BigQuiet
import Derived.Deep.QuietTactic
namespace Go.Proofs.Ytbpenjdpalhmaaa
open Go.Shelf Go.RowKit Go.Lib Go.Sort Go.Proofs.TreeMath Go.Proofs.LayoutMath
theorem run_store_complex (P : Program) (w : World) (a : Addr) (m : Mode) (k : FloatKind) (x y : Nat) : (store a (.complex k x y) m).run P w = stored P w a (.complex k x y) m := run_store P w a _ m rfl
/-- The printer's cells. -/
def pCells (dv : Value) (S n : Nat) (wd : Int) (c y b : Nat) : Array Value := #[dv, .slice (some ⟨S, 0, none⟩) n n, .int .i64 wd, .complex .f64 (flt c) (flt y), .func (.func 36) #[] #[.pointer (some ⟨b, 0, none⟩)]]
/-- What a printer holds in a world, that is to be one behind W: its text so far, its column and line. -/
structure PS (W : World) (b p : Nat) (dv : Value) (S n : Nat) (f : Nat → Value) (wd : Int) (l : List UInt8) (c y : Nat) (w : World) : Prop where
  hp : W.heap.size ≤ p
  bel : Below W.heap.size W w
  bld : Lib.IsBuilderF 58 5 W.heap.size b (Lib.byteCells l) w
  blk : w.heap[p]? = some (.cells (pCells dv S n wd c y b) 67 (0, 0))
  row : w.rowIs S 3 n f
/-- All blocks but two, and but rows of bytes, are as they were. -/
def Kp (b p : Nat) (w w' : World) : Prop := ∀ k o, w.heap[k]? = some o → k ≠ b → k ≠ p → (∀ c fz, o ≠ .cells c 5 fz) → w'.heap[k]? = some o
theorem Kp.refl (b p : Nat) (w : World) : Kp b p w w := fun _ _ h _ _ _ => h
theorem Kp.trans {b p : Nat} {w1 w2 w3 : World} (h : Kp b p w1 w2) (k : Kp b p w2 w3) : Kp b p w1 w3 := fun i o a1 a2 a3 a4 => k i o (h i o a1 a2 a3 a4) a2 a3 a4
theorem Kp.of_below {b p : Nat} {w w' : World} (h : Below w.heap.size w w') : Kp b p w w' := fun i o a1 _ _ _ => by
  rw [h.block i (Array.getElem?_eq_some_iff.1 a1).1, a1]
theorem Kp.of_others {b p : Nat} {w w' : World} (h : Lib.OthersKept 5 (some b) w w') : Kp b p w w' := fun i o a1 a2 _ a4 => h i o a1 (fun e => a2 (Option.some.inj e)) a4
theorem Kp.setCell {b p : Nat} (w : World) (j : Nat) (v : Value) : Kp b p w (w.setCell ⟨p, j, none⟩ v) := fun i o a1 _ a3 _ => by
  rw [Below.heap_setCell _ _ _ _ a3, a1]
theorem PS.cells {W : World} {b p : Nat} {dv : Value} {S n : Nat} {f : Nat → Value} {wd : Int} {l : List UInt8} {c y : Nat} {w : World} (h : PS W b p dv S n f wd l c y w) :
    w.cell? ⟨p, 0, none⟩ = some dv ∧ w.cell? ⟨p, 1, none⟩ = some (.slice (some ⟨S, 0, none⟩) n n) ∧ w.cell? ⟨p, 2, none⟩ = some (.int .i64 wd) ∧ w.cell? ⟨p, 3, none⟩ = some (.complex .f64 (flt c) (flt y)) ∧ w.cell? ⟨p, 4, none⟩ = some (.func (.func 36) #[] #[.pointer (some ⟨b, 0, none⟩)]) ∧ w.frozen? ⟨p, 3, none⟩ = false :=
  ⟨Lib.cell_of_heap h.blk 0, Lib.cell_of_heap h.blk 1, Lib.cell_of_heap h.blk 2, Lib.cell_of_heap h.blk 3, Lib.cell_of_heap h.blk 4, Lib.frozen_of_heap h.blk 3⟩
theorem PS.lt {W : World} {b p : Nat} {dv : Value} {S n : Nat} {f : Nat → Value} {wd : Int} {l : List UInt8} {c y : Nat} {w : World} (h : PS W b p dv S n f wd l c y w) : p < w.heap.size := (Array.getElem?_eq_some_iff.1 h.blk).1
theorem bld_below {T e : TypeId} {B b : Nat} {bs : List Value} {w w' : World} (h : Lib.IsBuilderF T e B b bs w) (k : Below w.heap.size w w') : Lib.IsBuilderF T e B b bs w' := by
  have key : ∀ p, Lib.BuilderAtF T e B b p bs w → Lib.BuilderAtF T e B b p bs w' := by
    rintro p ⟨h1, v, h2, h3, h4⟩
    refine ⟨h1, v, (k.block _ (Array.getElem?_eq_some_iff.1 h2).1).trans h2, ⟨h3.1, ?_⟩, h4⟩
    rcases h3.2 with h | ⟨g, cap, cur, fz, hv, hb, hg, rest⟩
    · exact .inl h
    · exact .inr ⟨g, cap, cur, fz, hv, hb, (k.block _ (Array.getElem?_eq_some_iff.1 hg).1).trans hg, rest⟩
  exact h.elim (fun x => .inl (key _ x)) (fun x => .inr (key _ x))
theorem bld_set {B b p j : Nat} {bs : List Value} {w : World} {cs : Array Value} {fz : Nat × Nat} (h : Lib.IsBuilderF 58 5 B b bs w) (hp : w.heap[p]? = some (.cells cs 67 fz)) (v : Value) : Lib.IsBuilderF 58 5 B b bs (w.setCell ⟨p, j, none⟩ v) := by
  have key : ∀ q, Lib.BuilderAtF 58 5 B b q bs w → Lib.BuilderAtF 58 5 B b q bs (w.setCell ⟨p, j, none⟩ v) := by
    rintro q ⟨h1, u, h2, h3, h4⟩
    have hne : b ≠ p := by
      rintro rfl
      rw [h2] at hp
      simp at hp
    refine ⟨h1, u, (Below.heap_setCell _ _ _ _ hne).trans h2, ⟨h3.1, ?_⟩, h4⟩
    rcases h3.2 with h | ⟨g, cap, cur, fz', hv, hb, hg, rest⟩
    · exact .inl h
    · have hne2 : g ≠ p := by
        rintro rfl
        rw [hg] at hp
        simp at hp
      exact .inr ⟨g, cap, cur, fz', hv, hb, (Below.heap_setCell _ _ _ _ hne2).trans hg, rest⟩
  exact h.elim (fun x => .inl (key _ x)) (fun x => .inr (key _ x))
theorem bld_not {B b k : Nat} {T : TypeId} {bs : List Value} {w : World} {cs : Array Value} {fz : Nat × Nat} (h : Lib.IsBuilderF 58 5 B b bs w) (hk : w.heap[k]? = some (.cells cs T fz)) (hT : T ≠ 58) : k ≠ b := by
  have key : ∀ q, Lib.BuilderAtF 58 5 B b q bs w → k ≠ b := by
    rintro q ⟨h1, u, h2, h3, h4⟩ rfl
    rw [h2] at hk
    simp at hk
    exact hT hk.2.1.symm
  exact h.elim (key _) (key _)
section
variable {W : World} {b p : Nat} {dv : Value} {S n : Nat} {f : Nat → Value} {wd : Int} {l : List UInt8} {c y : Nat} {w w' : World}
theorem PS.below (h : PS W b p dv S n f wd l c y w) (k : Below w.heap.size w w') : PS W b p dv S n f wd l c y w' :=
  ⟨h.hp, h.bel.trans (k.mono h.bel.size), bld_below h.bld k, (k.block _ h.lt).trans h.blk, h.row.of_block (k.block _ h.row.lt)⟩
theorem PS.put (h : PS W b p dv S n f wd l c y w) (c' y' : Nat) : PS W b p dv S n f wd l c' y' (w.setCell ⟨p, 3, none⟩ (.complex .f64 (flt c') (flt y'))) := by
  refine ⟨h.hp, h.bel.setCell h.hp _, bld_set h.bld h.blk _, ?_, ?_⟩
  · have hb := h.blk
    simp [World.setCell, Array.getElem?_modify, hb, pCells]
  · refine h.row.setOther (a := ⟨p, 3, none⟩) ?_ _
    show S ≠ p
    obtain ⟨cs, hS, _⟩ := h.row
    rintro rfl
    have := h.blk
    rw [hS] at this
    simp at this
theorem PS.wrote (h : PS W b p dv S n f wd l c y w) (s : List UInt8) {q : Value} (hq : q = .pointer (some ⟨b, 0, none⟩)) (h1 : Lib.BuilderAtF 58 5 W.heap.size b q (Lib.byteCells l ++ Lib.byteCells s) w') (h2 : Below W.heap.size w w') (h3 : Lib.OthersKept 5 (some b) w w') : PS W b p dv S n f wd (l ++ s) c y w' := by
  subst hq
  obtain ⟨cs, hS, hc1, hc2⟩ := h.row
  have hnS := bld_not h.bld hS (by decide)
  have hnp := bld_not h.bld h.blk (by decide)
  refine ⟨h.hp, h.bel.trans h2, .inr ?_, h3 p _ h.blk (fun e => hnp (Option.some.inj e)) (by simp), ⟨cs, h3 S _ hS (fun e => hnS (Option.some.inj e)) (by simp), hc1, hc2⟩⟩
  have e : Lib.byteCells (l ++ s) = Lib.byteCells l ++ Lib.byteCells s := by simp [Lib.byteCells]
  rw [e]
  exact h1
end
theorem below_dn {B : Nat} {w wr : World} (h : Below B w wr) (n : Nat) : Below B w (wr.drewN n) := ⟨h.os, h.tape, h.output, h.size, h.block⟩
/-- The closure that writes. -/
theorem put_any (W : World) (b p : Nat) (dv : Value) (S n : Nat) (f : Nat → Value) (wd : Int) (l : List UInt8) (c y : Nat) (s : ByteArray) (w : World) (h : PS W b p dv S n f wd l c y w) (hlen : l.length + s.size ≤ 140737488355328) :
    Calls Try.prog 36 #[.string s, .pointer (some ⟨b, 0, none⟩)] w fun e w' => e = .returned (.tuple #[]) ∧ PS W b p dv S n f wd (l ++ s.data.toList) c y w' ∧ Kp b p w w' := by
  have H := Lib.hid h
  have C := Lib.hid (write_any W.heap.size b (Lib.byteCells l) s w h.bld (by rw [Lib.byteCells_length]; exact hlen) h.bel.size)
  clear h hlen
  go_enter Try.func36, Try.ntmps36
  go_wp2_with fail
  refine C.out.mono ?_
  rintro e w1 ⟨rfl, h1, h2, h3⟩
  have HX := Lib.hid (And.intro h1 (And.intro h2 h3))
  clear h1 h2 h3
  go_wp2
  go_end0
  exact ⟨rfl, H.out.wrote _ rfl HX.out.1 HX.out.2.1 HX.out.2.2, Kp.of_others HX.out.2.2⟩
/-- The position behind a line. -/
theorem after_flat (W : World) (b p : Nat) (dv : Value) (S n : Nat) (f : Nat → Value) (wd : Int) (l : List UInt8) (c y : Nat) (ind : Int) (w : World) (h : PS W b p dv S n f wd l c y w) (hc : c + 1 < 2 ^ 53) (hy : y < 2 ^ 53) :
    Calls Try.prog 49 #[.pointer (some ⟨p, 0, none⟩), .agg #[.int .i64 ind, .bool true]] w fun e w' => e = .returned (.complex .f64 (flt (c + 1)) (flt y)) ∧ Below w.heap.size w w' := by
  have hs : cSumBits .add .f64 (flt c) (flt y) 4607182418800017408 0 = some (flt (c + 1), flt y) := by
    unfold cSumBits
    rw [← flt_one, ← flt_zero, flt_add hc, flt_add (by omega)]
    rfl
  have hop : ∀ w, (binOp .add 65 (.complex .f64 (flt c) (flt y)) (.complex .f64 4607182418800017408 0)).run Try.prog w = .ok (.complex .f64 (flt (c + 1)) (flt y)) w := fun w => run_complex_sum w .add (.inl rfl) 65 .f64 _ _ _ _ _ _ hs
  obtain ⟨_, _, _, c3, _, _⟩ := h.cells
  have hp := h.lt
  have H := Lib.hid h
  clear h hs hc hy
  go_enter Try.func49, Try.ntmps49
  go_wp2
  go_ret
  exact ⟨rfl, (Below.refl _ _).alloc (Nat.le_refl _) _⟩
theorem after_line (W : World) (b p : Nat) (dv : Value) (S n : Nat) (f : Nat → Value) (wd : Int) (l : List UInt8) (c y ind : Nat) (w : World) (h : PS W b p dv S n f wd l c y w) (hy : y + 1 < 2 ^ 53) :
    Calls Try.prog 49 #[.pointer (some ⟨p, 0, none⟩), .agg #[.int .i64 ind, .bool false]] w fun e w' => e = .returned (.complex .f64 (flt ind) (flt (y + 1))) ∧ Below w.heap.size w w' := by
  have hs : floatBits .add .f64 (flt y) 4607182418800017408 = some (flt (y + 1)) := by
    rw [← flt_one, flt_add hy]
  have hop : ∀ w, (binOp .add 76 (.float .f64 (flt y)) (.float .f64 4607182418800017408)).run Try.prog w = .ok (.float .f64 (flt (y + 1))) w := fun w => run_float_arith w .add 76 .f64 _ _ _ hs
  obtain ⟨_, _, _, c3, _, _⟩ := h.cells
  have hp := h.lt
  have H := Lib.hid h
  clear h hs hy
  go_enter Try.func49, Try.ntmps49
  go_wp2
  go_quiet (fail)
  go_wp2
  go_ret
  exact ⟨rfl, below_dn ((Below.refl _ _).alloc (Nat.le_refl _) _) _⟩
/-- Whether what stands at a place fits. -/
theorem fits_any (W : World) (b p : Nat) (dv : Value) (S n : Nat) (f : Nat → Value) (wd : Int) (l : List UInt8) (c y i s : Nat) (w : World) (h : PS W b p dv S n f wd l c y w) (hc : c < 2 ^ 53) (hi : i < n) (hf : f i = .int .i64 (s : Int)) (hs : s ≤ 1000000000000) :
    Calls Try.prog 50 #[.pointer (some ⟨p, 0, none⟩), .int .i64 (i : Int)] w fun e w' => e = .returned (.bool (decide (((c + s : Nat) : Int) ≤ wd))) ∧ Below w.heap.size w w' := by
  have hfi := flt_int hc
  have hop : ∀ w, (convert 76 3 (.float .f64 (flt c))).run Try.prog w = .ok (.int .i64 (c : Int)) w := fun w => run_convert_float_int w 76 3 .f64 .i64 _ _ rfl Try.underlying3 hfi
  obtain ⟨_, c1, c2, c3, _, _⟩ := h.cells
  have cs := h.row.cell hi
  rw [hf] at cs
  have hcb : (c : Int) < 9007199254740992 := by omega
  clear h hc hf hfi
  have e : ((c + s : Nat) : Int) = (c : Int) + (s : Int) := by omega
  rw [e]
  clear e
  go_enter Try.func50, Try.ntmps50
  go_wp2
  go_quiet (fail)
  go_wp2
  go_ret
  exact ⟨rfl, below_dn (Below.refl _ _) _⟩
end Go.Proofs.Ytbpenjdpalhmaaa
