/- Texts of this seat, one behind the other: LxFixS, LxFixK. -/
import Derived.Test.YtggjckalmlploaaGreatDoorKn20
import Derived.Lib.Bytealg
import Derived.Deep.QuietTactic
import Derived.BigQuiet
import Derived.IntWalk
/- The contract of sorted: a new list, in order. -/
set_option maxRecDepth 100000
namespace Go.Proofs.YtggjckalmlploaaGreatDoor.Lx
open Go.Shelf Go.RowKit Go.Lib Go.Sort Go.Proofs.FixMath

theorem cmps_any (a b : ByteArray) (w : World) : Calls Tryz.prog 78 #[.string a, .string b] w fun e w' => e = .returned (.int .i64 (Lib.compareBytes a.data.toList b.data.toList)) ∧ w = w' := by
  go_enter Tryz.func78, Tryz.ntmps78
  go_wp2
  rw [run_callFunc_extern Tryz.func110 (by kernel_rfl) (by kernel_rfl) (by kernel_rfl) (e := Extern.BytealgCompare.compare) (by kernel_rfl), Lib.run_compareString]
  simp only [Result.andThen]
  rw [Oper.upon_value]
  go_wp2
  go_ret
  exact ⟨rfl, rfl⟩
theorem scmp_any (a b : ByteArray) (w : World) : Calls Tryz.prog 44 #[.string a, .string b] w fun e w' => e = .returned (.int .i64 (Lib.compareBytes a.data.toList b.data.toList)) ∧ w = w' := by
  go_enter Tryz.func44, Tryz.ntmps44
  go_wp2_with fail
  refine (cmps_any _ _ _).mono ?_
  rintro e w1 ⟨rfl, rfl⟩
  go_wp2
  go_ret
  exact ⟨rfl, rfl⟩
def cmpF (x y : Fx) : Int := Lib.compareBytes x.key y.key
theorem compare_lt : ∀ (a b : List UInt8), decide (Lib.compareBytes a b < 0) = decide (a < b)
  | [], [] => by simp [Lib.compareBytes]
  | [], _ :: _ => by simp [Lib.compareBytes]
  | _ :: _, [] => by simp [Lib.compareBytes]
  | x :: a, y :: b => by
    have ih := compare_lt a b
    unfold Lib.compareBytes
    by_cases h1 : x < y
    · simp [h1, List.cons_lt_cons_iff]
    · by_cases h2 : y < x
      · have h3 : ¬ x = y := fun e => by rw [e] at h2; exact absurd h2 (by simp)
        simp [h1, h2, h3, List.cons_lt_cons_iff]
      · have h3 : x = y := by
          have a1 := UInt8.not_lt.1 h1
          have a2 := UInt8.not_lt.1 h2
          exact UInt8.le_antisymm a2 a1
        subst h3
        rw [if_neg h1, if_neg h1, ih]
        simp
theorem lt_cmpF (x y : Fx) : ltOf cmpF x y = decide (x.key < y.key) := compare_lt _ _
theorem swoF : SWO (ltOf cmpF) where
  irrefl x := by rw [lt_cmpF]; simp [List.lt_irrefl]
  trans x y z h1 h2 := by
    rw [lt_cmpF, decide_eq_true_eq] at *
    exact List.lt_trans h1 h2
  ntrans x y z h1 h2 := by
    rw [lt_cmpF, decide_eq_false_iff_not] at *
    rw [List.not_lt] at *
    exact List.le_trans h2 h1
theorem less_any (x y : Fx) (W : World) : Calls Tryz.prog 43 #[.agg #[.string x.op, .int .i64 x.level, .int .i64 x.side], .agg #[.string y.op, .int .i64 y.level, .int .i64 y.side]] W fun e w' => e = .returned (.int .i64 (cmpF x y)) ∧ ∃ q os', w' = grow (W.drewN q) os' := by
  have C := Lib.hid (fun W => scmp_any x.op y.op W)
  unfold cmpF Fx.key
  generalize Lib.compareBytes x.op.data.toList y.op.data.toList = r at *
  go_enter Tryz.func43, Tryz.ntmps43
  go_wp2_with fail
  refine (C.out _).mono ?_
  rintro e w1 ⟨rfl, rfl⟩
  go_wp2
  go_ret
  exact ⟨rfl, 0, _, by rw [alloc_eq_grow, alloc_eq_grow, grow_grow]; rfl⟩
theorem cmpLaysF (blk off size : Nat) (w : World) : CmpLays Tryz.prog 43 #[] Fx.cells 3 cmpF blk off size w := fun _ _ _ _ x y => less_any x y _
/-- Behind the sort nothing but the row's block is another one. -/
theorem sorted_grown {w : World} {g off n : Nat} {os : Array Obj} (d : Array Fx) : w.grownBy (sortWorldK Fx.cells 3 w g off n d os) (some g) := by
  unfold sortWorldK
  refine ⟨rfl, rfl, rfl, ?_, fun k hk hne => ?_⟩
  · rw [Sort.size_grow, size_putRowK]; exact Nat.le_add_right _ _
  · have hk' : k < (putRowK Fx.cells 3 (Sort.ahead w n) g off d).heap.size := by rw [size_putRowK]; exact hk
    rw [heap_grow_old _ _ hk']
    have : g ≠ k := fun e => hne (by rw [e])
    simp [putRowK, putRow, mapBlock, Sort.ahead, Array.getElem?_modify, this]
theorem CellsIn.holds {w : World} {b off : Nat} {fs : List Fx} (h : CellsIn w b off (fxCells fs)) (hf : ∀ j, w.frozen? ⟨b, j, none⟩ = false) : HoldsK Fx.cells 3 w b off fs.toArray := by
  intro j hj
  rw [size_flatK] at hj
  refine ⟨?_, hf _⟩
  rw [get_flatK _ _ _ _ hj]
  simp only [List.size_toArray] at hj
  have hq : j / 3 < fs.length := by omega
  have hr : j % 3 < 3 := by omega
  have := fxCells_get fs (j / 3) hq (j % 3) hr
  rw [show j / 3 * 3 + j % 3 = j by omega] at this
  refine h _ _ (this.trans ?_)
  have e : fs.toArray[j / 3]! = fs.getD (j / 3) default := by
    rw [List.getD_eq_getElem?_getD, getElem!_def]
    simp only [List.getElem?_toArray]
    cases fs[j / 3]? <;> rfl
  rw [e]
  generalize fs.getD (j / 3) default = f
  have hl : (Fx.cells f).length = 3 := rfl
  rw [List.getElem?_eq_getElem (by omega), getElem!_pos _ _ (by omega)]
  rfl
theorem holds_cells {w : World} {b off : Nat} {d : Array Fx} (h : HoldsK Fx.cells 3 w b off d) : CellsIn w b off (fxCells d.toList) := by
  intro j u hj
  have hj' : j < d.size * 3 := by
    have := (List.getElem?_eq_some_iff.1 hj).1
    rw [length_fxCells] at this
    simpa using this
  have hq : j / 3 < d.toList.length := by simp; omega
  have := fxCells_get d.toList (j / 3) hq (j % 3) (by omega)
  rw [show j / 3 * 3 + j % 3 = j by omega, hj] at this
  have h1 := (h.cell (i := j / 3) (c := j % 3) (by omega) (by omega)).1
  rw [Nat.add_assoc, show j / 3 * 3 + j % 3 = j by omega] at h1
  rw [h1]
  have e : d[j / 3]! = d.toList.getD (j / 3) default := by
    rw [List.getD_eq_getElem?_getD, getElem!_def, Array.getElem?_toList]
    cases d[j / 3]? <;> rfl
  rw [e]
  generalize d.toList.getD (j / 3) default = f at this ⊢
  have hl : (Fx.cells f).length = 3 := rfl
  rw [List.getElem?_eq_getElem (by omega)] at this
  rw [getElem!_pos _ _ (by omega)]
  exact this.symm
theorem perm_list {d d' : Array Fx} (h : PermIn 0 d.size d d') : d'.toList.Perm d.toList := by
  obtain ⟨h1, _, h3⟩ := h
  rw [show d.extract 0 d.size = d by simp, show d'.extract 0 d.size = d' by rw [← h1]; simp] at h3
  exact h3
theorem sorted_list {d' : Array Fx} {n : Nat} (hn : d'.size = n) (h : SortedIn (ltOf cmpF) 0 n d') : d'.toList.Pairwise (fun a b => ¬ b.key < a.key) := by
  rw [List.pairwise_iff_getElem]
  intro i j hi hj hij
  have := h i j (Nat.zero_le _) hij (by simp at hj; omega)
  rw [lt_cmpF, decide_eq_false_iff_not] at this
  simp only [Array.length_toList] at hi hj
  rw [getElem!_pos d' i hi, getElem!_pos d' j hj] at this
  simpa using this
/-- A list in some order of the texts. -/
def FxSRet (W : World) (fs : List Fx) (e : Ending) (w' : World) : Prop := ∃ v d, d.Perm fs ∧ d.Pairwise (fun a b => ¬ b.key < a.key) ∧ e = .returned v ∧ FixAt w' v d ∧ Below W.heap.size W w'
theorem isort_zero (p : Option Addr) (c : Nat) (fv : Value) (w : World) : Calls Tryz.prog 100 #[.slice p 0 c, .int .i64 0, .int .i64 0, fv] w fun e w' => e = .returned (.tuple #[]) ∧ w = w' := by
  go_enter Tryz.func100, Tryz.ntmps100
  go_wp2
  refine wp_loop_rounds 1 ?_
  rw [rounds_succ]
  go_wp2
  go_end0
  exact ⟨rfl, rfl⟩
theorem pdq_zero (p : Option Addr) (c : Nat) (lim : Int) (fv : Value) (w : World) : Calls Tryz.prog 76 #[.slice p 0 c, .int .i64 0, .int .i64 0, .int .i64 lim, fv] w fun e w' => e = .returned (.tuple #[]) ∧ w = w' := by
  go_enter Tryz.func76, Tryz.ntmps76
  go_wp2
  refine wp_loop_rounds 1 ?_
  rw [rounds_succ]
  go_wp2_with (go_at_call 100; refine (isort_zero _ _ _ _).mono ?_; rintro e w' ⟨rfl, rfl⟩)
  (try simp only [Exit.inBlock, Exit.then]); refine bodyPost_ret (results_none rfl _ _ _) rfl ?_
  exact ⟨rfl, rfl⟩
theorem len_zero (w : World) : Calls Tryz.prog 77 #[.int .u64 0] w fun e w' => (∃ l : Int, e = .returned (.int .i64 l)) ∧ w = w' := by
  have h := Any.bits_Len (SlLaysF0.n15.bits (P := Tryz.prog) (ρ := sortLays_ren) { sortLays with }) 0 w (by omega) (by omega)
  change Calls Tryz.prog 77 _ _ _ at h
  exact h.mono fun _ _ ⟨he, hw⟩ => ⟨⟨_, he⟩, hw.symm⟩
theorem sort_zero (p : Option Addr) (c : Nat) (fv : Value) (w : World) : Calls Tryz.prog 42 #[.slice p 0 c, fv] w fun e w' => e = .returned (.tuple #[]) ∧ w = w' := by
  go_enter Tryz.func42, Tryz.ntmps42
  go_wp2_with fail
  refine (len_zero _).mono ?_
  rintro e w1 ⟨⟨l, rfl⟩, rfl⟩
  go_wp2_with fail
  refine (pdq_zero _ _ _ _ _).mono ?_
  rintro e w1 ⟨rfl, rfl⟩
  go_wp2
  go_end0
  exact ⟨rfl, rfl⟩
theorem clone_some (b off n c : Nat) (fs : List Fx) (w : World) (hl : fs.length = n) (hn : n ≤ 1000000) (hc : CellsIn w b off (fxCells fs)) : Calls Tryz.prog 41 #[.slice (some ⟨b, off, none⟩) n c] w fun e w' => ∃ v', e = .returned v' ∧ FRow w.heap.size w' v' fs ∧ v' ≠ .slice none 0 0 ∧ Below w.heap.size w w' := by
  obtain ⟨i0, hi, hz0, hz1, hz2⟩ := infoFix
  have := AnyE.slices_Clone cloneLays i0 zeroFix 3 32 hi hz0 hz1 hz2 rfl (by decide) Tryz.sizeOf41 b off n c (fxCells fs) w (by rw [length_fxCells, hl]) (by unfold maxLen; omega) (by omega) hc (fxCells_one fs)
  subst hl
  exact this
/-- A function that returns a list. -/
def NRet (W : World) (fs : List Fx) (e : Ending) (w' : World) : Prop := ∃ v, e = .returned v ∧ FixAt w' v fs ∧ Below W.heap.size W w'
theorem clone_zero (p : Option Addr) (c : Nat) (w : World) : Calls Tryz.prog 41 #[.slice p 0 c] w (NRet w []) := by
  have q22 : ∀ (w : World) (a : Option Addr) (n c n' c' : Nat), (binOp .eql 22 (.slice a n c) (.slice none n' c')).run Tryz.prog w = .ok (.bool a.isNone) w := fun w a n c n' c' => Lib.run_eql_slice_nil w _ _ a n c n' c' Tryz.underlying22
  rcases p with _ | a <;>
  · go_enter Tryz.func41, Tryz.ntmps41
    go_wp2
    go_ret
    refine ⟨_, rfl, ⟨rfl, _, _, rfl, Nat.zero_le _, by unfold maxLen; omega, fun h => absurd rfl h⟩, ?_⟩
    first | exact Below.refl _ _ | exact (Below.refl _ _).alloc (Nat.le_refl _) _
theorem sorted_zero (p : Option Addr) (c : Nat) (w : World) : Calls Tryz.prog 23 #[.slice p 0 c] w (FxSRet w []) := by
  go_enter Tryz.func23, Tryz.ntmps23
  go_wp2_with fail
  refine (clone_zero _ _ _).mono ?_
  rintro e w1 ⟨v, rfl, h1, b1⟩
  obtain ⟨q, k, rfl⟩ := fix_form h1
  have B1 := Lib.hid b1
  have H1 := Lib.hid h1
  clear b1 h1
  go_wp2_with fail
  refine (sort_zero _ _ _ _).mono ?_
  rintro e w1 ⟨rfl, rfl⟩
  go_wp2
  go_ret
  exact ⟨.slice q 0 k, [], List.Perm.refl _, List.Pairwise.nil, rfl, H1.out, B1.out⟩
set_option maxHeartbeats 1000000 in
theorem sorted_some (b off n c : Nat) (fs : List Fx) (w : World) (hl : Hid (fs.length = n)) (hn : n ≤ 1000000) (hc : Hid (CellsIn w b off (fxCells fs))) : Calls Tryz.prog 23 #[.slice (some ⟨b, off, none⟩) n c] w (FxSRet w fs) := by
  have eg : ∀ args w, (callFunc 43 args).run Tryz.prog w = .ok (.enter 43 args) w := enters_of Tryz.func43 (by kernel_rfl) rfl
  go_enter Tryz.func23, Tryz.ntmps23
  go_wp2_with fail
  refine (clone_some _ _ _ _ fs _ hl.out hn hc.out).mono ?_
  rintro e w1 ⟨v1, rfl, r1, hne, b1⟩
  obtain ⟨g, cap, rfl, hg, hnc, hcap⟩ : ∃ g cap, v1 = .slice (some ⟨g, 0, none⟩) n cap ∧ w.heap.size ≤ g ∧ n ≤ cap ∧ cap ≤ maxLen := by
    rcases r1.2 with ⟨rfl, _⟩ | ⟨g, cap, cur, rfl, hb, _, hm0, hm, _⟩
    · exact absurd rfl hne
    · exact ⟨g, cap, by rw [hl.out], hb, by rw [hl.out] at hm0; exact hm0, hm⟩
  have hgl : g < w1.heap.size := (World.ownsRow.there r1 rfl).2
  have hH : HoldsK Fx.cells 3 w1 g 0 fs.toArray := by
    refine CellsIn.holds ?_ fun j => ?_
    · obtain ⟨_, _, _, hv, _, _, hh⟩ := SliceAt.of_owns r1
      simp only [Value.slice.injEq] at hv
      by_cases h0 : fs.length = 0
      · obtain rfl : fs = [] := List.eq_nil_of_length_eq_zero h0
        intro j u hj; simp [fxCells] at hj
      · obtain ⟨b2, o2, he, _, hcc⟩ := hh h0
        rw [← hv.1] at he
        simp only [Option.some.injEq, Addr.mk.injEq] at he
        obtain ⟨rfl, rfl, _⟩ := he
        exact hcc
    · have : w1.ownsRow w.heap.size 41 3 (.slice (some ⟨g, 0, none⟩) n cap) n (fxCells fs) := by have := r1; unfold FRow at this; rw [hl.out] at this; exact this
      exact this.frozenAt j
  have hcon := AnyQ.slices_SortFunc sortLays 3 Tryz.isAgg41 Tryz.sizeOf41 Fx.cells (fun _ => rfl) (fun x v hv => by simp [Fx.cells] at hv; rcases hv with rfl | rfl | rfl <;> rfl) cmpF swoF 43 #[] g 0 cap fs.toArray w1 eg (cmpLaysF g 0 _ w1) hH hgl (by simp; rw [hl.out]; omega)
  change Calls Tryz.prog 42 _ _ _ at hcon
  rw [List.size_toArray, hl.out] at hcon
  have HC := Lib.hid hcon
  have HH := Lib.hid hH
  have B1 := Lib.hid b1
  have HG := Lib.hid hgl
  clear hcon hH b1 r1 hne hgl
  go_wp2_with fail
  refine HC.out.mono ?_
  rintro e w2 ⟨rfl, d', k, os, hp, hs, rfl⟩
  have P1 := Lib.hid hp
  have S1 := Lib.hid hs
  clear hp hs
  have G1 := Lib.hid (sorted_grown (w := w1) (g := g) (off := 0) (n := k) (os := os) d')
  have hd : d'.size = n := by have := P1.out.1; simp only [List.size_toArray, hl.out] at this; exact this
  have H2 := Lib.hid (holdsK_sortWorldK_c Fx.cells 3 w1 g 0 fs.toArray d' k os HH.out HG.out (by simp only [List.size_toArray, hl.out]; exact hd))
  have SZ : w1.heap.size ≤ (sortWorldK Fx.cells 3 w1 g 0 k d' os).heap.size := G1.out.size
  generalize sortWorldK Fx.cells 3 w1 g 0 k d' os = w2 at *
  have HD := Lib.hid hd
  clear hd
  go_wp2
  go_ret
  have hlen : d'.toList.length = n := by simpa using HD.out
  refine ⟨.slice (some ⟨g, 0, none⟩) n cap, d'.toList, ?_, sorted_list HD.out S1.out, rfl, ?_, ?_⟩
  · exact perm_list (d := fs.toArray) (by rw [List.size_toArray, hl.out]; exact P1.out)
  · refine ⟨by rw [length_fxCells], _, cap, by rw [hlen], by rw [hlen]; exact hnc, hcap, fun _ => ⟨g, 0, rfl, Nat.lt_of_lt_of_le HG.out SZ, holds_cells H2.out⟩⟩
  · refine B1.out.grown G1.out B1.out.size fun q hq => ?_
    simp only [Option.some.injEq] at hq
    omega
theorem sorted_any (v : Value) (fs : List Fx) (w : World) (h : FixAt w v fs) (hn : fs.length ≤ 1000000) : Calls Tryz.prog 23 #[v] w (FxSRet w fs) := by
  obtain ⟨_, p, c, rfl, _, _, hp⟩ := h
  rcases fs with _ | ⟨x, fs⟩
  · exact sorted_zero p c w
  · obtain ⟨b, off, rfl, hb, hc⟩ := hp (by simp)
    exact sorted_some b off _ c (x :: fs) w (Lib.hid rfl) hn (Lib.hid hc)
end Go.Proofs.YtggjckalmlploaaGreatDoor.Lx
/- The contracts of Check: the program's and the document's. -/
set_option maxRecDepth 100000
namespace Go.Proofs.YtggjckalmlploaaGreatDoor.Lx
open Go.Shelf Go.RowKit Go.Lib Go.Sort Go.Proofs.FixMath

theorem fx_drewN {B : Nat} {w wr : World} (h : Below B w wr) (n : Nat) : Below B w (wr.drewN n) := ⟨h.os, h.tape, h.output, h.size, h.block⟩
/-- A fixity whose text is not too long for the model. -/
abbrev SFx := {f : Fx // f.op.size ≤ 100000000}
instance : Inhabited SFx := ⟨⟨zf, by decide⟩⟩
/-- Lists whose texts aren't too long. -/
def Small (fs : List Fx) : Prop := ∀ f ∈ fs, f.op.size ≤ 100000000
theorem wrong_any (x : SFx) (W w : World) (hb : Below w.heap.size w W) : Calls Tryz.prog 20 #[fxV x.1] W fun e w' => e = .returned (.bool (!rightF x.1)) ∧ Below w.heap.size w w' := by
  have C := Lib.hid (fun W => fright_any x.1 W x.2)
  have HB := Lib.hid hb
  have hc := (FixBlk.new W x.1).cells
  obtain ⟨⟨s, l, d⟩, _⟩ := x
  simp only at C hc ⊢
  generalize rightF ⟨s, l, d⟩ = r at *
  clear hb hc
  show Calls Tryz.prog 20 #[.agg #[.string s, .int .i64 l, .int .i64 d]] W _
  go_enter Tryz.func20, Tryz.ntmps20
  go_wp2_with fail
  refine (C.out _).mono ?_
  rintro e w1 ⟨rfl, b1⟩
  have B1 := Lib.hid b1
  clear b1
  go_wp2
  go_ret
  exact ⟨rfl, (HB.out.alloc HB.out.size _).trans (B1.out.mono (by have := HB.out.size; simp; omega))⟩
theorem attach_any (fs : List Fx) (h : ∀ f ∈ fs, f.op.size ≤ 100000000) (p : Fx → Bool) : ((fs.attachWith _ h).any fun x : SFx => p x.1) = fs.any p := by
  induction fs with
  | nil => rfl
  | cons f fs ih => rw [List.attachWith_cons, List.any_cons, List.any_cons, ih]
theorem contains_zero (p : Option Addr) (c : Nat) (g : Value) (w : World) : Calls Tryz.prog 22 #[.slice p 0 c, g] w fun e w' => e = .returned (.bool false) ∧ w = w' := by
  go_enter Tryz.func22, Tryz.ntmps22
  go_wp2_with fail
  refine (IndexFunc_zero _ _ _ _).mono ?_
  rintro e w1 ⟨rfl, rfl⟩
  go_wp2
  go_ret
  exact ⟨rfl, rfl⟩
theorem contains_some (b off n c : Nat) (fs : List Fx) (w : World) (hl : fs.length = n) (hn : n ≤ 1000000) (hs : ∀ f ∈ fs, f.op.size ≤ 100000000) (hb : b < w.heap.size) (hc : CellsIn w b off (fxCells fs)) : Calls Tryz.prog 22 #[.slice (some ⟨b, off, none⟩) n c, .func (.func 20) #[] #[]] w (RB (fs.any fun f => !rightF f) w) := by
  have eg : ∀ args w, (callFunc 20 args).run Tryz.prog w = .ok (.enter 20 args) w := enters_of Tryz.func20 (by kernel_rfl) rfl
  have hl2 : (fs.attachWith _ hs).length = n := by rw [List.length_attachWith, hl]
  have hcon := AnyQ.slices_ContainsFunc containsLays 3 Tryz.isAgg41 Tryz.sizeOf41 (fun x : SFx => Fx.cells x.1) (fun _ => rfl) (fun x : SFx => !rightF x.1) 20 #[] eg b off n c (fs.attachWith _ hs) w
    (fun W x hW => wrong_any x W w hW) (by rw [hl2]; exact Nat.le_refl _) (by omega) hb (fun j hj i v hi => by
      rw [hl2, ← hl] at hj
      refine hc.enc j hj i v ?_
      rw [getElem!_pos _ j (by rw [List.length_attachWith]; exact hj), List.getElem_attachWith] at hi
      rw [getElem!_pos fs j hj]
      exact hi)
  change Calls Tryz.prog 22 _ _ _ at hcon
  rw [List.take_of_length_le (by rw [hl2]; exact Nat.le_refl _), attach_any fs hs (fun f => !rightF f)] at hcon
  exact hcon
theorem contains_any (v : Value) (fs : List Fx) (w : World) (h : FixAt w v fs) (hn : fs.length ≤ 1000000) (hs : Small fs) : Calls Tryz.prog 22 #[v, .func (.func 20) #[] #[]] w (RB (fs.any fun f => !rightF f) w) := by
  obtain ⟨_, p, c, rfl, _, _, hp⟩ := h
  rcases fs with _ | ⟨x, fs⟩
  · exact (contains_zero p c _ w).mono fun e w' ⟨he, hw⟩ => ⟨he, by rw [← hw]; exact Below.refl _ _⟩
  · obtain ⟨b, off, rfl, hb, hc⟩ := hp (by simp)
    exact contains_some b off _ c (x :: fs) w rfl hn hs hb hc
/-- A function that returns a number. -/
def IRet (x : Int) (W : World) (e : Ending) (w' : World) : Prop := e = .returned (.int .i64 x) ∧ Below W.heap.size W w'
def dupE (b : Bool) : Int := if b = true then 41 else 0
def twoE (a b : Bool) : Int := if a = true then 40 else dupE b
theorem check_form (l : List Fx) (h4 : ¬ 400 < l.length) : checkL rightF l = twoE (l.any fun f => !rightF f) (dupB l) := by
  unfold checkL twoE dupE
  by_cases h : l.any (fun f => !rightF f) = true
  · rw [if_pos (.inr h), if_pos h]
  · rw [if_neg (by intro e; rcases e with e | e; exact h4 e; exact h e), if_neg h]
set_option maxHeartbeats 1000000 in
/-- The part of Check that looks for two that stand side by side. -/
theorem check_go (p : Option Addr) (n c : Nat) (fs : List Fx) (w : World) (hl : Hid (fs.length = n)) (hn : n ≤ 1000000) (hs : Hid (Small fs)) (h : Hid (FixAt w (.slice p n c) fs)) : Calls Tryz.prog 14 #[.slice p n c] w (IRet (checkL rightF fs) w) := by
  by_cases h4 : 400 < n
  · have e : checkL rightF fs = 40 := by unfold checkL; rw [if_pos (.inl (by rw [hl.out]; exact h4))]
    rw [e]
    have g : decide ((400 : Int) < (n : Int)) = true := by simp; omega
    go_enter Tryz.func14, Tryz.ntmps14
    go_wp2
    go_ret
    exact ⟨rfl, Below.refl _ _⟩
  · have e := Lib.hid (check_form fs (by rw [hl.out]; exact h4))
    have g : decide ((400 : Int) < (n : Int)) = false := by simp; omega
    have C := Lib.hid (fun W (hW : Below w.heap.size w W) => contains_any _ fs W (h.out.below hW) (by rw [hl.out]; exact hn) hs.out)
    rw [e.out]
    obtain ⟨r, hr⟩ : ∃ r, r = fs.any (fun f => !rightF f) := ⟨_, rfl⟩
    rw [← hr] at C ⊢
    have HR := Lib.hid hr
    clear hr e
    cases r
    · rw [show twoE false (dupB fs) = dupE (dupB fs) from rfl]
      obtain ⟨bb, hbb⟩ : ∃ bb, bb = dupB fs := ⟨_, rfl⟩
      rw [← hbb]
      have HBB := Lib.hid hbb
      clear hbb
      go_enter Tryz.func14, Tryz.ntmps14
      go_wp2_with fail
      refine (C.out _ ?c1).mono ?_
      case c1 => exact Below.refl _ _
      rintro e w1 ⟨rfl, b1⟩
      have B1 := Lib.hid b1
      clear b1
      go_wp2_with fail
      refine (sorted_any _ fs _ (h.out.below B1.out) (by rw [hl.out]; exact hn)).mono ?_
      rintro e w2 ⟨v2, d, hp, hd, rfl, f2, b2⟩
      have B2 := Lib.hid (B1.out.trans (b2.mono B1.out.size))
      have hdn : d.length = n := by rw [hp.length_eq]; exact hl.out
      have DP := Lib.hid ((dup_perm hp).trans HBB.out.symm)
      have DS := Lib.hid (@dup_sorted d hd)
      have DT := Lib.hid (fun i k a b c => @dup_two d i k a b c)
      obtain ⟨q, k2, rfl⟩ := fix_form f2
      rw [hdn]
      have HN := Lib.hid hdn
      have F2 := Lib.hid f2
      clear hp hd f2 b2 hdn HBB
      go_wp2
      go_loopw [5] (fun i wr => ∃ k : Nat, 1 ≤ k ∧ (k ≤ n ∨ k = 1) ∧ i = .int .i64 k ∧ Below w2.heap.size w2 wr ∧ ∀ j, j + 1 < k → ¬ (d.getD j default).op = (d.getD (j + 1) default).op) (fun i _ => n + 1 - (intOf i).toNat)
      case atStart => exact ⟨1, Nat.le_refl _, .inr rfl, rfl, Below.refl _ _, fun j hj => by omega⟩
      case round =>
        obtain ⟨wo, hwo⟩ : ∃ wo : World, wo = wr := ⟨_, rfl⟩
        subst hwo
        obtain ⟨k, hk1, hk, rfl, hbel, hpre⟩ := hrel
        have HP := Lib.hid hpre
        clear hpre
        by_cases hlt : k < n
        · have hcc : ∃ b off, q = some ⟨b, off, none⟩ ∧ b < w2.heap.size ∧ CellsIn w2 b off (fxCells d) := by
            obtain ⟨_, p', c', hv, _, _, hh⟩ := F2.out
            rw [HN.out] at hv hh
            simp only [Value.slice.injEq] at hv
            rw [hv.1]
            exact hh (by omega)
          obtain ⟨b, off, rfl, hb, hc⟩ := hcc
          have hc' := hc.below hb hbel
          obtain ⟨a0, a1, a2⟩ := hc'.fx (k - 1) (by rw [HN.out]; omega)
          obtain ⟨e0, e1, e2⟩ := hc'.fx k (by rw [HN.out]; omega)
          have T := Lib.hid (DT.out k (k - 1) (by omega) (by rw [HN.out]; exact hlt))
          obtain ⟨x, hxk⟩ : ∃ x, x = d.getD (k - 1) default := ⟨_, rfl⟩
          obtain ⟨y, hyk⟩ : ∃ y, y = d.getD k default := ⟨_, rfl⟩
          rw [← hxk] at a0 a1 a2 T
          rw [← hyk] at e0 e1 e2 T
          have HX := Lib.hid hxk
          have HY := Lib.hid hyk
          have HB := Lib.hid hbel
          clear hxk hyk hc hc' hbel
          obtain ⟨x0, x1, x2⟩ := x
          obtain ⟨y0, y1, y2⟩ := y
          simp only at a0 a1 a2 e0 e1 e2 T
          have s1 : IntKind.i64.wrap ((k : Int) - 1) = ((k - 1 : Nat) : Int) := by rw [IntWalk.i64_in _ (by omega)]; omega
          have s2 : ((k - 1 : Nat) : Int) < (n : Int) := by omega
          have s3 : (k : Int) < (n : Int) := by omega
          by_cases g : x0 = y0
          · have E := Lib.hid (T.out g)
            have g' : (x0.toList == y0.toList) = true := by rw [g]; simp
            clear g T
            go_wp2
            go_quiet (fail)
            all_goals
              go_wp2
              go_ret
              rw [← DP.out, E.out]
              exact ⟨rfl, B2.out.trans ((fx_drewN HB.out _).mono B2.out.size)⟩
          · have G := Lib.hid g
            have g' : (x0.toList == y0.toList) = false := by rw [bytes_beq]; simpa using g
            clear g T
            go_wp2
            go_quiet (fail)
            all_goals
              go_wp2
              go_roundw
              case rel => exact ⟨k + 1, by omega, by omega, by go_num, fx_drewN HB.out _, fun j hj => by
                rcases Nat.lt_or_ge (j + 1) k with h | h
                · exact HP.out j h
                · rw [show j = k - 1 by omega, show k - 1 + 1 = k by omega, ← HX.out, ← HY.out]; exact G.out⟩
              case measure => simp [intOf]; omega
        · have E := Lib.hid (DS.out fun i hi => HP.out i (by rw [HN.out] at hi; omega))
          clear HP
          go_wp2
          go_ret
          rw [← DP.out, E.out]
          exact ⟨rfl, B2.out.trans (hbel.mono B2.out.size)⟩
    · rw [show twoE true (dupB fs) = 40 from rfl]
      go_enter Tryz.func14, Tryz.ntmps14
      go_wp2_with fail
      refine (C.out _ ?c2).mono ?_
      case c2 => exact Below.refl _ _
      rintro e w1 ⟨rfl, b1⟩
      have B1 := Lib.hid b1
      clear b1
      go_wp2
      go_ret
      exact ⟨rfl, B1.out⟩
theorem check_any (v : Value) (fs : List Fx) (w : World) (h : FixAt w v fs) (hn : fs.length ≤ 1000000) (hs : Small fs) : Calls Tryz.prog 14 #[v] w (IRet (checkL rightF fs) w) := by
  obtain ⟨p, c, rfl⟩ := fix_form h
  exact check_go p _ c fs w (Lib.hid rfl) hn (Lib.hid hs) (Lib.hid h)
end Go.Proofs.YtggjckalmlploaaGreatDoor.Lx
