/- Texts of this seat, one behind the other: ParV, ParW. -/
import Derived.Test.YtggjckalmlploaaGreatDoorKn08
import Derived.Lib.Hide
import Derived.Shelf.Strings.Fields
import Derived.Test.YtggjckalmlploaaGreatDoorKn02
import Derived.BigRegion
import Derived.Deep.RegionWith
import Derived.StillTailTactics
import Derived.BigQuiet
import Derived.Deep.QuietTactic
/- What a parser holds in a world; blocks but one that stay; tests. -/
namespace Go.Proofs.YtggjckalmlploaaGreatDoor
open Go.RowKit Go.Lib Go.Proofs.TreeMath Go.Proofs.LexMath Go.Proofs.FixMath Go.Proofs.ParMath

theorem cell_of_heap {w : World} {b : Nat} {cells : Array Value} {t : TypeId} {fz : Nat × Nat} (h : w.heap[b]? = some (.cells cells t fz)) (k : Nat) : w.cell? ⟨b, k, none⟩ = cells[k]? := by simp [World.cell?, h]
theorem frozen_of_heap {w : World} {b : Nat} {cells : Array Value} {t : TypeId} (h : w.heap[b]? = some (.cells cells t (0, 0))) (k : Nat) : w.frozen? ⟨b, k, none⟩ = false := by simp [World.frozen?, h]
def tokV (t : Tok) : Value := .agg #[.int .i64 t.kind, .string t.text, .int .i64 t.num, .int .i64 t.at_]
def fxCells (fs : List Fx) : List Value := fs.flatMap fun f => [.string f.op, .int .i64 f.level, .int .i64 f.side]
/-- All blocks but one are as they were. -/
structure Bar (p : Nat) (w w' : World) : Prop where
  os : w'.os = w.os
  tape : w'.tape = w.tape
  output : w'.output = w.output
  size : w.heap.size ≤ w'.heap.size
  block : ∀ k, k < w.heap.size → k ≠ p → w'.heap[k]? = w.heap[k]?
theorem Bar.refl (p : Nat) (w : World) : Bar p w w := ⟨rfl, rfl, rfl, Nat.le_refl _, fun _ _ _ => rfl⟩
theorem Bar.trans {p : Nat} {a b c : World} (h : Bar p a b) (k : Bar p b c) : Bar p a c :=
  ⟨k.os.trans h.os, k.tape.trans h.tape, k.output.trans h.output, Nat.le_trans h.size k.size, fun j hj hp => (k.block j (Nat.lt_of_lt_of_le hj h.size) hp).trans (h.block j hj hp)⟩
theorem Bar.of_below {p : Nat} {w w' : World} (h : Below w.heap.size w w') : Bar p w w' := ⟨h.os, h.tape, h.output, h.size, fun k hk _ => h.block k hk⟩
theorem Bar.below {p : Nat} {w w' : World} (h : Bar p w w') (hp : w.heap.size ≤ p) : Below w.heap.size w w' := ⟨h.os, h.tape, h.output, h.size, fun k hk => h.block k hk (by omega)⟩
theorem Bar.drew {p : Nat} {a w : World} (h : Bar p a w) : Bar p a w.drew := ⟨h.os, h.tape, h.output, h.size, h.block⟩
theorem Bar.alloc {p : Nat} {a w : World} (h : Bar p a w) (o : Obj) : Bar p a (w.alloc o) := h.trans (.of_below ((Below.refl _ _).alloc (Nat.le_refl _) o))
theorem Bar.setCell {p : Nat} {a w : World} (h : Bar p a w) (i : Nat) (u : Value) : Bar p a (w.setCell ⟨p, i, none⟩ u) :=
  h.trans ⟨rfl, rfl, rfl, by simp [World.setCell], fun k _ hk => Below.heap_setCell _ _ _ _ hk⟩
theorem Bar.step {p : Nat} {a w w' : World} (h : Bar p a w) (b : Below w.heap.size w w') : Bar p a w' := h.trans (.of_below b)
theorem Bar.cell {p : Nat} {w w' : World} (h : Bar p w w') {a : Addr} (ha : a.block < w.heap.size) (hp : a.block ≠ p) : w'.cell? a = w.cell? a := World.cell?_of_block (w := w) (h.block a.block ha hp)
/-- Views in blocks but one. -/
def Off (p : Nat) (v : Value) : Prop := ∀ b o n c, v = .slice (some ⟨b, o, none⟩) n c → b ≠ p
theorem slice_bar {p : Nat} {w w' : World} {size n : Nat} {v : Value} {cs : List Value} (h : SliceAt w size v n cs) (hp : n ≠ 0 → Off p v) (b : Bar p w w') : SliceAt w' size v n cs := by
  obtain ⟨h1, q, cap, rfl, h2, h3, h4⟩ := h
  refine ⟨h1, q, cap, rfl, h2, h3, fun hn => ?_⟩
  obtain ⟨bk, off, rfl, hb, hc⟩ := h4 hn
  exact ⟨bk, off, rfl, Nat.lt_of_lt_of_le hb b.size, hc.kept (b.block bk hb (hp hn bk off n cap rfl))⟩
/-- No text lies in a block. -/
def NoStr (p : Nat) (w : World) : Prop := ∀ i t, w.cell? ⟨p, i, none⟩ ≠ some (.string t)
theorem off_str {p : Nat} {w : World} {size n j : Nat} {v : Value} {cs : List Value} {t : ByteArray} (h : SliceAt w size v n cs) (hn : n ≠ 0) (hj : cs[j]? = some (.string t)) (hp : NoStr p w) : Off p v := by
  obtain ⟨_, q, cap, rfl, _, _, h4⟩ := h
  obtain ⟨bk, off, rfl, _, hc⟩ := h4 hn
  intro b o m c e
  simp only [Value.slice.injEq, Option.some.injEq, Addr.mk.injEq] at e
  rintro rfl
  refine hp (off + j) t ?_
  rw [← e.1.1]
  exact hc j _ hj
theorem toks_str {l : List Tok} (h : l.length ≠ 0) : ∃ t, (Lx.tokCells l)[1]? = some (.string t) := by
  cases l with
  | nil => exact absurd rfl h
  | cons a l => exact ⟨a.text, by simp [Lx.tokCells, Tok.cells]⟩
theorem nodes_str {l : List Nd} (h : l.length ≠ 0) : ∃ t, (nodeCells l)[1]? = some (.string t) := by
  cases l with
  | nil => exact absurd rfl h
  | cons a l => exact ⟨a.text, by simp [nodeCells, Nd.cells]⟩
theorem fixes_str {l : List Fx} (h : l.length ≠ 0) : ∃ t, (fxCells l)[0]? = some (.string t) := by
  cases l with
  | nil => exact absurd rfl h
  | cons a l => exact ⟨a.op, by simp [fxCells]⟩
theorem NodesAt.bar {p : Nat} {w w' : World} {v : Value} {ns : List Nd} (h : NodesAt w v ns) (hp : NoStr p w) (b : Bar p w w') : NodesAt w' v ns :=
  slice_bar h (fun hn => by obtain ⟨t, ht⟩ := nodes_str hn; exact off_str h hn ht hp) b
def ToksA (w : World) (v : Value) (l : List Tok) : Prop := SliceAt w 4 v l.length (Lx.tokCells l)
def FixA (w : World) (v : Value) (fs : List Fx) : Prop := SliceAt w 3 v fs.length (fxCells fs)
theorem ToksA.bar {p : Nat} {w w' : World} {v : Value} {ns : List Tok} (h : ToksA w v ns) (hp : NoStr p w) (b : Bar p w w') : ToksA w' v ns :=
  slice_bar h (fun hn => by obtain ⟨t, ht⟩ := toks_str hn; exact off_str h hn ht hp) b
theorem FixA.bar {p : Nat} {w w' : World} {v : Value} {ns : List Fx} (h : FixA w v ns) (hp : NoStr p w) (b : Bar p w w') : FixA w' v ns :=
  slice_bar h (fun hn => by obtain ⟨t, ht⟩ := fixes_str hn; exact off_str h hn ht hp) b
/-- The library's table of blanks. -/
def Tab (w : World) : Prop := ∀ c : Nat, c < 256 → w.cell? ⟨1, c, none⟩ = some (.int .u8 (if Lib.isSp (UInt8.ofNat c) then 1 else 0))
theorem Tab.bar {p : Nat} {w w' : World} (h : Tab w) (hp : p ≠ 1) (b : Bar p w w') : Tab w' := fun c hc => by
  have h1 := h c hc
  have := World.block_lt_of_cell? _ _ h1
  rw [b.cell (a := ⟨1, c, none⟩) this (fun e => hp e.symm)]
  exact h1
/-- A parser's cells. -/
def pCells (rv : Value) (fin : Int) (fv : Value) (dp e at_ : Int) : Array Value := #[rv, .int .i64 fin, fv, .int .i64 dp, .int .i64 e, .int .i64 at_]
/-- What is small enough. -/
def Lim (l : List Tok) : Prop := l.length ≤ 700 ∧ Sm 1000 l
def Low (p : Nat) (v : Value) : Prop := ∀ b o n c, v = .slice (some ⟨b, o, none⟩) n c → n ≠ 0 → b < p
theorem slice_low {p : Nat} {w w' : World} {size n : Nat} {v : Value} {cs : List Value} (h : SliceAt w size v n cs) (hp : Low p v) (b : Below p w w') : SliceAt w' size v n cs := by
  obtain ⟨h1, q, cap, rfl, h2, h3, h4⟩ := h
  refine ⟨h1, q, cap, rfl, h2, h3, fun hn => ?_⟩
  obtain ⟨bk, off, rfl, hb, hc⟩ := h4 hn
  exact ⟨bk, off, rfl, Nat.lt_of_lt_of_le hb b.size, hc.kept (b.block bk (hp bk off n cap rfl hn))⟩
structure PS (C : Cfg) (p : Nat) (dp : Int) (s : St) (w : World) : Prop where
  ex : ∃ rv fv, w.heap[p]? = some (.cells (pCells rv C.fin fv dp s.e s.at_) 53 (0, 0)) ∧ ToksA w rv s.rest ∧ FixA w fv C.fs ∧ Low p rv ∧ Low p fv
  tab : Tab w
  lim : Lim s.rest
  one : 1 < p
section
variable {C : Cfg} {p : Nat} {dp : Int} {s : St} {w w' : World}
theorem toks_slice {v : Value} {l : List Tok} (h : ToksA w v l) : ∃ q c, v = .slice q l.length c := by obtain ⟨_, q, c, e, _⟩ := h; exact ⟨q, c, e⟩
theorem fixes_slice {v : Value} {l : List Fx} (h : FixA w v l) : ∃ q c, v = .slice q l.length c := by obtain ⟨_, q, c, e, _⟩ := h; exact ⟨q, c, e⟩
theorem PS.noStr (h : PS C p dp s w) : NoStr p w := by
  obtain ⟨rv, fv, h1, h2, h3, _⟩ := h.ex
  obtain ⟨q, c, rfl⟩ := toks_slice h2
  obtain ⟨q2, c2, rfl⟩ := fixes_slice h3
  intro i t e
  unfold World.cell? at e
  simp only [h1, pCells] at e
  rcases i with _ | _ | _ | _ | _ | _ | i <;> simp at e
theorem PS.lt (h : PS C p dp s w) : p < w.heap.size := by
  obtain ⟨rv, fv, h1, _⟩ := h.ex
  exact (Array.getElem?_eq_some_iff.1 h1).1
theorem PS.ne1 (h : PS C p dp s w) : p ≠ 1 := by have := h.one; omega
theorem PS.cells (h : PS C p dp s w) : ∃ q c q2 c2, ToksA w (.slice q s.rest.length c) s.rest ∧ FixA w (.slice q2 C.fs.length c2) C.fs ∧ w.cell? ⟨p, 0, none⟩ = some (.slice q s.rest.length c) ∧ w.cell? ⟨p, 1, none⟩ = some (.int .i64 C.fin) ∧ w.cell? ⟨p, 2, none⟩ = some (.slice q2 C.fs.length c2) ∧
    w.cell? ⟨p, 3, none⟩ = some (.int .i64 dp) ∧ w.cell? ⟨p, 4, none⟩ = some (.int .i64 s.e) ∧ w.cell? ⟨p, 5, none⟩ = some (.int .i64 s.at_) ∧ (∀ i, w.frozen? ⟨p, i, none⟩ = false) ∧ (∃ fv, w.heap[p]? = some (.cells (pCells (.slice q s.rest.length c) C.fin fv dp s.e s.at_) 53 (0, 0)) ∧ FixA w fv C.fs ∧ Low p fv) ∧ Low p (.slice q s.rest.length c) := by
  obtain ⟨rv, fv, h1, h2, h3, h4, h5⟩ := h.ex
  obtain ⟨q, c, rfl⟩ := toks_slice h2
  obtain ⟨q2, c2, rfl⟩ := fixes_slice h3
  exact ⟨q, c, q2, c2, h2, h3, cell_of_heap h1 0, cell_of_heap h1 1, cell_of_heap h1 2, cell_of_heap h1 3, cell_of_heap h1 4, cell_of_heap h1 5, fun i => frozen_of_heap h1 i, ⟨_, h1, h3, h5⟩, h4⟩
/-- A parser whose cells are written anew. -/
theorem PS.made {dp2 : Int} {s2 : St} (h : PS C p dp s w) (b : Below p w w') (rv fv0 : Value) (hb : w'.heap[p]? = some (.cells (pCells rv C.fin fv0 dp2 s2.e s2.at_) 53 (0, 0))) (hf : FixA w fv0 C.fs) (hfl : Low p fv0) (ht : ToksA w rv s2.rest) (htl : Low p rv) (hl : Lim s2.rest) : PS C p dp2 s2 w' :=
  ⟨⟨rv, fv0, hb, slice_low ht htl b, slice_low hf hfl b, htl, hfl⟩, fun c hc => by have := h.tab c hc; rw [b.cell (p := ⟨1, c, none⟩) h.one]; exact this, hl, h.one⟩
/-- What writes behind a parser leaves it as it is. -/
theorem PS.behind (h : PS C p dp s w) (b : Below (p + 1) w w') : PS C p dp s w' := by
  obtain ⟨rv, fv, h1, h2, h3, h4, h5⟩ := h.ex
  exact h.made (b.mono (by omega)) rv fv ((b.block p (by omega)).trans h1) h3 h5 h2 h4 h.lim
theorem PS.below (h : PS C p dp s w) (b : Below w.heap.size w w') : PS C p dp s w' := h.behind (b.mono h.lt)
theorem PS.setOff (h : PS C p dp s w) {X : Nat} (hX : p < X) (i : Nat) (v : Value) : PS C p dp s (w.setCell ⟨X, i, none⟩ v) := h.behind ((Below.refl _ _).setCell (by show p + 1 ≤ X; omega) v)
theorem Bar.low (b : Bar p w w') (hp : p ≤ w.heap.size) : Below p w w' := ⟨b.os, b.tape, b.output, b.size, fun k hk => b.block k (by omega) (by omega)⟩
theorem Bar.setNew {a : World} (h : Bar p a w) {X : Nat} (hX : a.heap.size ≤ X) (i : Nat) (v : Value) : Bar p a (w.setCell ⟨X, i, none⟩ v) :=
  ⟨h.os, h.tape, h.output, by have := h.size; simp [World.setCell]; exact this, fun k hk hp => by rw [Below.heap_setCell _ _ _ _ (by show k ≠ X; omega)]; exact h.block k hk hp⟩
end
theorem set_blk {w : World} {p : Nat} {cs : Array Value} {T : TypeId} {fz : Nat × Nat} (h : w.heap[p]? = some (.cells cs T fz)) (i : Nat) (v : Value) : (w.setCell ⟨p, i, none⟩ v).heap[p]? = some (.cells (cs.setIfInBounds i v) T fz) := by
  simp [World.setCell, Array.getElem?_modify, h]
end Go.Proofs.YtggjckalmlploaaGreatDoor
/- The parser's small functions: here, fail, the tests. -/
set_option maxRecDepth 100000
namespace Go.Proofs.YtggjckalmlploaaGreatDoor
open Go.Shelf Go.RowKit Go.Lib Go.Proofs.TreeMath Go.Proofs.LexMath Go.Proofs.FixMath Go.Proofs.ParMath
section
variable {C : Cfg} {p : Nat} {dp : Int} {s : St} {w : World}
theorem PS.c0 (h : PS C p dp s w) : ∃ q c, w.cell? ⟨p, 0, none⟩ = some (.slice q s.rest.length c) := by obtain ⟨_, _, _, _, _, _, h1, _⟩ := h.cells; exact ⟨_, _, h1⟩
theorem PS.c1 (h : PS C p dp s w) : w.cell? ⟨p, 1, none⟩ = some (.int .i64 C.fin) := by obtain ⟨_, _, _, _, _, _, _, h1, _⟩ := h.cells; exact h1
theorem PS.c2 (h : PS C p dp s w) : ∃ q c, w.cell? ⟨p, 2, none⟩ = some (.slice q C.fs.length c) ∧ FixA w (.slice q C.fs.length c) C.fs := by obtain ⟨_, _, _, _, _, hf, _, _, h1, _⟩ := h.cells; exact ⟨_, _, h1, hf⟩
theorem PS.c3 (h : PS C p dp s w) : w.cell? ⟨p, 3, none⟩ = some (.int .i64 dp) := by obtain ⟨_, _, _, _, _, _, _, _, _, h1, _⟩ := h.cells; exact h1
theorem PS.c4 (h : PS C p dp s w) : w.cell? ⟨p, 4, none⟩ = some (.int .i64 s.e) := by obtain ⟨_, _, _, _, _, _, _, _, _, _, h1, _⟩ := h.cells; exact h1
theorem PS.c5 (h : PS C p dp s w) : w.cell? ⟨p, 5, none⟩ = some (.int .i64 s.at_) := by obtain ⟨_, _, _, _, _, _, _, _, _, _, _, h1, _⟩ := h.cells; exact h1
theorem PS.fz (h : PS C p dp s w) (i : Nat) : w.frozen? ⟨p, i, none⟩ = false := by obtain ⟨_, _, _, _, _, _, _, _, _, _, _, _, h1, _⟩ := h.cells; exact h1 i
theorem PS.nil (h : PS C p dp s w) (hr : s.rest = []) : ∃ q c, w.cell? ⟨p, 0, none⟩ = some (.slice q 0 c) := by
  obtain ⟨q, c, q2, c2, _, _, h0, _⟩ := h.cells
  rw [hr] at h0
  exact ⟨q, c, h0⟩
theorem PS.cons (h : PS C p dp s w) {t : Tok} {r : List Tok} (hr : s.rest = t :: r) : ∃ b off c, w.cell? ⟨p, 0, none⟩ = some (.slice (some ⟨b, off, none⟩) (r.length + 1) c) ∧ b < p ∧ b < w.heap.size ∧ r.length + 1 ≤ c ∧ c ≤ maxLen ∧ Lx.CellsIn w b off (Lx.tokCells (t :: r)) ∧
    w.cell? ⟨b, off, none⟩ = some (.int .i64 t.kind) ∧ w.cell? ⟨b, off + 1, none⟩ = some (.string t.text) ∧ w.cell? ⟨b, off + 2, none⟩ = some (.int .i64 t.num) ∧ w.cell? ⟨b, off + 3, none⟩ = some (.int .i64 t.at_) := by
  obtain ⟨q, c, q2, c2, ht, _, h0, _, _, _, _, _, _, _, ho⟩ := h.cells
  rw [hr] at h0 ht ho
  obtain ⟨_, q', c', e, h2, h3, h4⟩ := ht
  obtain ⟨b, off, rfl, hb, hc⟩ := h4 (by simp)
  simp only [Value.slice.injEq] at e
  obtain ⟨rfl, _, rfl⟩ := e
  have hk := Lx.CellsIn.tok (w := w) (b := b) (off := off) hc 0 (by simp)
  simp only [Nat.zero_mul, Nat.add_zero, List.getD_cons_zero] at hk
  exact ⟨b, off, c, h0, ho b off _ c rfl (by simp), hb, h2, h3, hc, hk⟩
end
theorem here_any (C : Cfg) (p : Nat) (dp : Int) (s : St) (w : World) (h : PS C p dp s w) : Calls Tryz.prog 19 #[.pointer (some ⟨p, 0, none⟩)] w fun e w' => e = .returned (.int .i64 (here C s)) ∧ w' = w := by
  have h1 := h.c1
  cases hr : s.rest with
  | nil =>
    obtain ⟨q, c, h0⟩ := h.nil hr
    have e : here C s = C.fin := by unfold here; rw [hr]
    rw [e]
    clear h
    go_enter Tryz.func19, Tryz.ntmps19
    go_wp2
    go_ret
    exact ⟨rfl, rfl⟩
  | cons t r =>
    obtain ⟨b, off, c, h0, _, _, _, _, _, k0, k1, k2, k3⟩ := h.cons hr
    have e : here C s = t.at_ := by unfold here; rw [hr]
    have hz2 : ((r.length : Int) + 1 == 0) = false := by rw [beq_eq_false_iff_ne]; omega
    rw [e]
    clear h hr
    go_enter Tryz.func19, Tryz.ntmps19
    go_wp2
    go_ret
    exact ⟨rfl, rfl⟩
theorem lim_nil : Lim [] := ⟨Nat.zero_le _, Sm.nil _⟩
theorem low_nil (p : Nat) : Low p (.slice none 0 0) := fun b o n c e => by simp at e
theorem toks_nil (w : World) : ToksA w (.slice none 0 0) [] := SliceAt.nil w 4
theorem fail_any (C : Cfg) (p : Nat) (dp : Int) (s : St) (x c : Int) (w : World) (h : PS C p dp s w) : Calls Tryz.prog 18 #[.pointer (some ⟨p, 0, none⟩), .int .i64 x, .int .i64 c] w fun e w' => e = .returned (.tuple #[]) ∧ PS C p dp (s.fail x c) w' ∧ Bar p w w' := by
  have h4 := h.c4
  have h5 := h.c5
  obtain ⟨q0, k0, h0⟩ := h.c0
  have f0 := h.fz 0
  have f4 := h.fz 4
  have f5 := h.fz 5
  have H := Lib.hid h
  by_cases he : s.e = 0
  · have e : s.fail x c = ⟨[], c, x⟩ := fail_ok he x c
    rw [e]
    clear e h
    rw [he] at h4
    go_enter Tryz.func18, Tryz.ntmps18
    go_wp2
    go_end0
    have B : Bar p w (((w.setCell ⟨p, 5, none⟩ (.int .i64 x)).setCell ⟨p, 4, none⟩ (.int .i64 c)).setCell ⟨p, 0, none⟩ (.slice none 0 0)) := (((Bar.refl p w).setCell 5 _).setCell 4 _).setCell 0 _
    refine ⟨rfl, ?_, B⟩
    obtain ⟨q, k, q2, k2, _, _, _, _, _, _, _, _, _, ⟨fv, hb, hf, hfl⟩, _⟩ := H.out.cells
    exact H.out.made (B.low (Nat.le_of_lt H.out.lt)) (.slice none 0 0) fv (set_blk (set_blk (set_blk hb 5 _) 4 _) 0 _) hf hfl (toks_nil _) (low_nil p) lim_nil
  · have he2 : (s.e == 0) = false := by rw [beq_eq_false_iff_ne]; exact he
    have e : s.fail x c = ⟨[], s.e, s.at_⟩ := by unfold St.fail; rw [if_neg he]
    rw [e]
    clear e h
    go_enter Tryz.func18, Tryz.ntmps18
    go_wp2
    go_end0
    have B : Bar p w (w.setCell ⟨p, 0, none⟩ (.slice none 0 0)) := (Bar.refl p w).setCell 0 _
    refine ⟨rfl, ?_, B⟩
    obtain ⟨q, k, q2, k2, _, _, _, _, _, _, _, _, _, ⟨fv, hb, hf, hfl⟩, _⟩ := H.out.cells
    exact H.out.made (B.low (Nat.le_of_lt H.out.lt)) (.slice none 0 0) fv (set_blk hb 0 _) hf hfl (toks_nil _) (low_nil p) lim_nil
/-! ### Tests -/
/-- A function value that tests tokens, whatever becomes of the parser. -/
def IsTest (p : Nat) (w : World) (v : Value) (f : Test) : Prop := ∃ g cap, v = .func (.func g) #[] cap ∧ (∀ vs W, (callFunc g vs).run Tryz.prog W = .ok (.enter g vs) W) ∧
  ∀ W, Bar p w W → ∀ t : Tok, Calls Tryz.prog g (#[tokV t] ++ cap) W fun e W' => e = .returned (.bool (f t)) ∧ Below W.heap.size W W'
theorem IsTest.bar {p : Nat} {w w' : World} {v : Value} {f : Test} (h : IsTest p w v f) (b : Bar p w w') : IsTest p w' v f := by
  obtain ⟨g, cap, h1, h2, h3⟩ := h
  exact ⟨g, cap, h1, h2, fun W hW => h3 W (b.trans hW)⟩
theorem IsTest.below {p : Nat} {w w' : World} {v : Value} {f : Test} (h : IsTest p w v f) (b : Below w.heap.size w w') : IsTest p w' v f := h.bar (.of_below b)
theorem call64 (vs : Array Value) (w : World) : (callFunc 64 vs).run Tryz.prog w = .ok (.enter 64 vs) w := run_callFunc Tryz.func64 (by kernel_rfl) (by kernel_rfl) vs w
theorem call96 (vs : Array Value) (w : World) : (callFunc 96 vs).run Tryz.prog w = .ok (.enter 96 vs) w := run_callFunc Tryz.func96 (by kernel_rfl) (by kernel_rfl) vs w
theorem call121 (vs : Array Value) (w : World) : (callFunc 121 vs).run Tryz.prog w = .ok (.enter 121 vs) w := run_callFunc Tryz.func121 (by kernel_rfl) (by kernel_rfl) vs w
theorem call123 (vs : Array Value) (w : World) : (callFunc 123 vs).run Tryz.prog w = .ok (.enter 123 vs) w := run_callFunc Tryz.func123 (by kernel_rfl) (by kernel_rfl) vs w
theorem txt_eq (a b : ByteArray) : (a.toList == b.toList) = decide (a = b) := by
  by_cases h : a = b
  · subst h; simp
  · have : ¬ a.toList = b.toList := fun e => h (by
      rw [ByteArray.toList_eq, ByteArray.toList_eq] at e
      obtain ⟨⟨a⟩⟩ := a
      obtain ⟨⟨b⟩⟩ := b
      simp at e
      rw [e])
    rw [decide_eq_false h]
    simpa using this
theorem key1_any (x : ByteArray) (t : Tok) (b : Nat) (w : World) (hc : w.cell? ⟨b, 0, none⟩ = some (.string x)) : Calls Tryz.prog 64 #[tokV t, .pointer (some ⟨b, 0, none⟩)] w fun e w' => e = .returned (.bool (isKey x t)) ∧ Below w.heap.size w w' := by
  have hb := World.block_lt_of_cell? _ _ hc
  have hx := fun o => (World.cell?_alloc_old w o ⟨b, 0, none⟩ (Nat.ne_of_lt hb)).trans hc
  unfold tokV
  by_cases hk : t.kind = 6
  · have hk2 : (t.kind == 6) = true := by rw [hk]; rfl
    have e : isKey x t = (t.text.toList == x.toList) := by unfold isKey; rw [txt_eq, decide_eq_true hk]; simp
    rw [e]
    clear e
    go_enter Tryz.func64, Tryz.ntmps64
    go_wp2
    go_ret
    exact ⟨rfl, (Below.refl _ _).alloc (Nat.le_refl _) _⟩
  · have hk2 : (t.kind == 6) = false := by rw [beq_eq_false_iff_ne]; exact hk
    have e : isKey x t = false := by unfold isKey; rw [decide_eq_false hk]; rfl
    rw [e]
    clear e
    go_enter Tryz.func64, Tryz.ntmps64
    go_wp2
    go_ret
    exact ⟨rfl, (Below.refl _ _).alloc (Nat.le_refl _) _⟩
theorem key_any (p : Nat) (x : ByteArray) (w : World) (hp : p < w.heap.size) : Calls Tryz.prog 36 #[.string x] w fun e w' => ∃ v, e = .returned v ∧ IsTest p w' v (isKey x) ∧ Below w.heap.size w w' := by
  go_enter Tryz.func36, Tryz.ntmps36
  go_wp2
  go_ret
  refine ⟨_, rfl, ⟨64, _, rfl, call64, fun W hW t => ?_⟩, (Below.refl _ _).alloc (Nat.le_refl _) _⟩
  refine key1_any x t _ W ?_
  rw [hW.cell (a := ⟨w.heap.size, 0, none⟩) (by simp) (by show w.heap.size ≠ p; omega)]
  simp
end Go.Proofs.YtggjckalmlploaaGreatDoor
