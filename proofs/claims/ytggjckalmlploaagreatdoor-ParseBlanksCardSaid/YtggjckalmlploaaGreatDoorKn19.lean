/- Texts of this seat, one behind the other: LxFixV, LxFixL. -/
import Derived.Test.YtggjckalmlploaaGreatDoorKn17
import Derived.Test.YtggjckalmlploaaGreatDoorKn18
import Derived.Maps.AppendAt
import Derived.Deep.AppendSrc
import Derived.Shelf.SlSortCmp.WholeK
import Derived.Shelf.SlicesQ.IndexFunc
import Derived.Shelf.SlicesE.Clone
/- Slices of fixities, of numbers and of texts, as lists, in a world; append to a row of the call's own. -/
namespace Go
theorem run_append_any {P : Program} (w : World) (base : Nat) (t ty e : TypeId) (i : TypeInfo) (z : Value) (size bytes : Nat) (ht : P.underlying t = some (.slice e)) (hi : P.info? e = some i) (hz : i.zero = some z)
    (hsize : i.size = size) (hby : i.bytes = bytes) (hzs : z.cells.size = size) (hsz : 0 < size)
    (v : Value) (n : Nat) (xs : List Value) (hown : w.ownsRow base e size v n xs)
    (q : Option Addr) (m c : Nat) (news : List Value) (hl : news.length = m * size) (hq : m ≠ 0 → ∃ ad, q = some ad ∧ ∀ j u, news[j]? = some u → w.cell? (ad.add j) = some u) (h1 : ∀ u ∈ news, u.oneCell' = true)
    (h63 : n + m ≤ maxLen) (hbytes : (n + m) * bytes ≤ 140737488355328) (hbase : base ≤ w.heap.size) :
    ∃ v' w', (Builtin.append_ #[t, t] ty #[v, .slice q m c]).run P w = .ok v' w' ∧ w'.ownsRow base e size v' (n + m) (xs ++ news) ∧ w.grownBy w' v.ownBlock ∧
      (v' = .slice none 0 0 ↔ v = .slice none 0 0 ∧ m = 0) ∧ (v'.ownBlock = v.ownBlock ∨ v'.ownBlock = some w.heap.size) := by
  by_cases h0 : m = 0
  · subst h0
    obtain rfl : news = [] := List.eq_nil_of_length_eq_zero (by rw [hl]; simp)
    cases q with
    | some ad => exact run_append_own_at w base t ty e i z size bytes ht hi hz hsize hby hzs hsz v n xs hown ad 0 c [] hl (by simp) h1 h63 hbytes hbase
    | none =>
      subst hsize
      have hsrc : Src P i.size t (.slice none 0 c) 0 [] w := Src.ofNil w ht c
      rcases hown.2 with ⟨rfl, rfl⟩ | ⟨g, cap, cur, rfl, hbg, hg, hnc, hcm, hcs, htake⟩
      · have hx : xs = [] := List.eq_nil_of_length_eq_zero (by simpa using hown.1)
        subst hx
        refine ⟨.slice none 0 0, w, ?_, World.ownsRow_nil w base e i.size, ⟨rfl, rfl, rfl, Nat.le_refl _, fun _ _ _ => rfl⟩, by simp, Or.inl rfl⟩
        simp [Builtin.append_, run_underlying ht, sizeOf, typeInfo, hi, Builtin.lenOf, Builtin.firstCells]
      · have hr := run_append_room_src (P := P) w t t ty e i ht hi g 0 n cap (.slice none 0 c) 0 [] hsrc (by omega) (by simp) (by simp)
        exact ⟨_, w, hr, by simpa using hown, ⟨rfl, rfl, rfl, Nat.le_refl _, fun _ _ _ => rfl⟩, by simp, Or.inl rfl⟩
  · obtain ⟨ad, rfl, hnews⟩ := hq h0
    exact run_append_own_at w base t ty e i z size bytes ht hi hz hsize hby hzs hsz v n xs hown ad m c news hl hnews h1 h63 hbytes hbase
theorem wpList_append_any {P : Program} (w : World) {ops : Array Oper} {rest : List Oper} {o : Oper} {a : Act} {Q : Exit → Act → World → Prop} (hgd : o.guard = none) (s x : Operand) (t : TypeId)
    (ho : o.op = .call { callee := .builtin .append, args := #[s, x], argTypes := #[t, t] })
    (base : Nat) (e : TypeId) (i : TypeInfo) (z : Value) (size bytes : Nat) (ht : P.underlying t = some (.slice e)) (hi : P.info? e = some i) (hz : i.zero = some z)
    (hsize : i.size = size) (hby : i.bytes = bytes) (hzs : z.cells.size = size) (hsz : 0 < size)
    (v : Value) (n : Nat) (xs : List Value) (hs : a.eval s = v) (hown : w.ownsRow base e size v n xs)
    (q : Option Addr) (m c : Nat) (news : List Value) (hx : a.eval x = .slice q m c) (hl : news.length = m * size) (hq : m ≠ 0 → ∃ ad, q = some ad ∧ ∀ j u, news[j]? = some u → w.cell? (ad.add j) = some u) (h1 : ∀ u ∈ news, u.oneCell' = true)
    (h63 : n + m ≤ maxLen) (hbytes : (n + m) * bytes ≤ 140737488355328) (hbase : base ≤ w.heap.size)
    (h : ∀ p' cap' w', w'.ownsRow base e size (.slice p' (n + m) cap') (n + m) (xs ++ news) → w.grownBy w' v.ownBlock → ((Value.slice p' (n + m) cap').ownBlock = v.ownBlock ∨ (Value.slice p' (n + m) cap').ownBlock = some w.heap.size) → wpList P ops Q rest (a.put o.dst (.slice p' (n + m) cap')) w') : wpList P ops Q (o :: rest) a w := by
  obtain ⟨v', w', hr, h2, h3, h4, h5⟩ := run_append_any (P := P) w base t o.type e i z size bytes ht hi hz hsize hby hzs hsz v n xs hown q m c news hl hq h1 h63 hbytes hbase
  obtain ⟨p', cap', rfl⟩ : ∃ p' cap', v' = .slice p' (n + m) cap' := by
    rcases h2.2 with ⟨rfl, e⟩ | ⟨g, cap, cur, rfl, _⟩
    · exact ⟨none, 0, by rw [e]⟩
    · exact ⟨_, _, rfl⟩
  refine wpList_plain hgd fun K hK => ?_
  unfold Oper.wp execOp
  simp only [ho, resolve, invoke, builtin, Sem.run_bind, Sem.run_pure, Result.andThen_ok, List.map_toArray, List.map_cons, List.map_nil, hs, hx, hr]
  exact hK _ _ (h p' cap' w' h2 h3 h5)
/-- A row that lies behind a base lies behind an elder one. -/
theorem World.ownsRow.base {w : World} {b b' : Nat} {e : TypeId} {size n : Nat} {v : Value} {xs : List Value} (h : w.ownsRow b e size v n xs) (hb : b' ≤ b) : w.ownsRow b' e size v n xs := by
  refine ⟨h.1, ?_⟩
  rcases h.2 with h | ⟨g, cap, cur, hv, hg, rest⟩
  · exact .inl h
  · exact .inr ⟨g, cap, cur, hv, by omega, rest⟩
/-- It stays while its block does. -/
theorem World.ownsRow.keep {w w' : World} {base : Nat} {e : TypeId} {size n : Nat} {v : Value} {xs : List Value} (h : w.ownsRow base e size v n xs) (k : ∀ g, v.ownBlock = some g → w'.heap[g]? = w.heap[g]?) : w'.ownsRow base e size v n xs := by
  refine ⟨h.1, ?_⟩
  rcases h.2 with h | ⟨g, cap, cur, rfl, hb, hg, rest⟩
  · exact .inl h
  · exact .inr ⟨g, cap, cur, rfl, hb, (k g rfl).trans hg, rest⟩
/-- Its block is one that is there. -/
theorem World.ownsRow.there {w : World} {base : Nat} {e : TypeId} {size n : Nat} {v : Value} {xs : List Value} (h : w.ownsRow base e size v n xs) {g : Nat} (hg : v.ownBlock = some g) : base ≤ g ∧ g < w.heap.size := by
  rcases h.2 with ⟨rfl, _⟩ | ⟨g', cap, cur, rfl, hb, hg', _⟩
  · cases hg
  · simp [Value.ownBlock] at hg
    subst hg
    exact ⟨hb, (Array.getElem?_eq_some_iff.1 hg').1⟩
end Go
namespace Go.Proofs.YtggjckalmlploaaGreatDoor.Lx
open Go.RowKit Go.Proofs.FixMath

def _root_.Go.Proofs.FixMath.Fx.cells (f : Fx) : List Value := [.string f.op, .int .i64 f.level, .int .i64 f.side]
def fxCells (fs : List Fx) : List Value := fs.flatMap Fx.cells
def intCells (xs : List Int) : List Value := xs.map (Value.int .i64)
def strCells (ss : List ByteArray) : List Value := ss.map Value.string
def fxV (f : Fx) : Value := .agg #[.string f.op, .int .i64 f.level, .int .i64 f.side]
def FixAt (w : World) (v : Value) (fs : List Fx) : Prop := SliceAt w 3 v fs.length (fxCells fs)
def IntsAt (w : World) (v : Value) (xs : List Int) : Prop := SliceAt w 1 v xs.length (intCells xs)
def StrsAt (w : World) (v : Value) (ss : List ByteArray) : Prop := SliceAt w 1 v ss.length (strCells ss)
/-- Rows of the call's own. -/
def FRow (base : Nat) (w : World) (v : Value) (fs : List Fx) : Prop := w.ownsRow base 41 3 v fs.length (fxCells fs)
def IRow (base : Nat) (w : World) (v : Value) (xs : List Int) : Prop := w.ownsRow base 3 1 v xs.length (intCells xs)

theorem length_fxCells (fs : List Fx) : (fxCells fs).length = fs.length * 3 := by
  induction fs with
  | nil => rfl
  | cons n ns ih =>
    unfold fxCells at ih ⊢
    rw [List.flatMap_cons, List.length_append, ih]
    simp [Fx.cells]
    omega
theorem fxCells_append (a b : List Fx) : fxCells (a ++ b) = fxCells a ++ fxCells b := by simp [fxCells]
theorem intCells_append (a b : List Int) : intCells (a ++ b) = intCells a ++ intCells b := by simp [intCells]
theorem fxCells_get (ns : List Fx) (i : Nat) (hi : i < ns.length) (j : Nat) (hj : j < 3) : (fxCells ns)[i * 3 + j]? = (Fx.cells (ns.getD i default))[j]? := by
  induction ns generalizing i with
  | nil => simp at hi
  | cons n ns ih =>
    unfold fxCells at ih ⊢
    rw [List.flatMap_cons]
    have h4 : (Fx.cells n).length = 3 := rfl
    cases i with
    | zero => rw [List.getElem?_append_left (by omega)]; simp
    | succ i =>
      rw [List.getElem?_append_right (by omega), show (i + 1) * 3 + j - (Fx.cells n).length = i * 3 + j by omega, ih i (by simpa using hi)]
      simp
theorem fxCells_take (ns : List Fx) : ∀ k, fxCells (ns.take k) = (fxCells ns).take (k * 3) := by
  induction ns with
  | nil => intro k; simp [fxCells]
  | cons n ns ih =>
    intro k
    cases k with
    | zero => simp [fxCells]
    | succ k =>
      have := ih k
      unfold fxCells at this ⊢
      rw [List.take_succ_cons, List.flatMap_cons, List.flatMap_cons, this, show (k + 1) * 3 = (Fx.cells n).length + k * 3 by simp [Fx.cells]; omega, List.take_length_add_append]
theorem fxCells_drop (ns : List Fx) : ∀ k, fxCells (ns.drop k) = (fxCells ns).drop (k * 3) := by
  induction ns with
  | nil => intro k; simp [fxCells]
  | cons n ns ih =>
    intro k
    cases k with
    | zero => simp [fxCells]
    | succ k =>
      have := ih k
      unfold fxCells at this ⊢
      rw [List.drop_succ_cons, List.flatMap_cons, this, show (k + 1) * 3 = (Fx.cells n).length + k * 3 by simp [Fx.cells]; omega, List.drop_length_add_append]
theorem fxCells_one (ns : List Fx) : ∀ u ∈ fxCells ns, u.oneCell' = true := by
  intro u hu
  obtain ⟨n, _, hn⟩ := List.mem_flatMap.1 hu
  simp [Fx.cells] at hn
  rcases hn with rfl | rfl | rfl <;> rfl
theorem CellsIn.fx {w : World} {b off : Nat} {ns : List Fx} (h : CellsIn w b off (fxCells ns)) (i : Nat) (hi : i < ns.length) :
    w.cell? ⟨b, off + i * 3, none⟩ = some (.string (ns.getD i default).op) ∧ w.cell? ⟨b, off + i * 3 + 1, none⟩ = some (.int .i64 (ns.getD i default).level) ∧ w.cell? ⟨b, off + i * 3 + 2, none⟩ = some (.int .i64 (ns.getD i default).side) := by
  have h0 := h _ _ (fxCells_get ns i hi 0 (by omega))
  have h1 := h _ _ (fxCells_get ns i hi 1 (by omega))
  have h2 := h _ _ (fxCells_get ns i hi 2 (by omega))
  exact ⟨h0, h1, h2⟩
theorem CellsIn.int {w : World} {b off : Nat} {xs : List Int} (h : CellsIn w b off (intCells xs)) (i : Nat) (hi : i < xs.length) :
    w.cell? ⟨b, off + i, none⟩ = some (.int .i64 (xs.getD i 0)) := by
  refine h i _ ?_
  simp [intCells, List.getElem?_eq_getElem hi, List.getD_eq_getElem?_getD]
theorem CellsIn.str {w : World} {b off : Nat} {xs : List ByteArray} (h : CellsIn w b off (strCells xs)) (i : Nat) (hi : i < xs.length) :
    w.cell? ⟨b, off + i, none⟩ = some (.string (xs.getD i default)) := by
  refine h i _ ?_
  simp [strCells, List.getElem?_eq_getElem hi, List.getD_eq_getElem?_getD]
theorem CellsIn.below {w w' : World} {b off : Nat} {cs : List Value} (h : CellsIn w b off cs) (hb : b < w.heap.size) (bel : Below w.heap.size w w') : CellsIn w' b off cs := h.kept (bel.block b hb)
theorem CellsIn.at {w : World} {b off : Nat} {cs : List Value} (h : CellsIn w b off cs) : ∀ j u, cs[j]? = some u → w.cell? ((⟨b, off, none⟩ : Addr).add j) = some u := by
  intro j u hj
  rw [Go.WideShapes.add_plain]
  exact h j u hj
theorem FixAt.below {w w' : World} {v : Value} {ns : List Fx} (h : FixAt w v ns) (b : Below w.heap.size w w') : FixAt w' v ns := SliceAt.below h b
theorem IntsAt.below {w w' : World} {v : Value} {xs : List Int} (h : IntsAt w v xs) (b : Below w.heap.size w w') : IntsAt w' v xs := SliceAt.below h b
theorem StrsAt.below {w w' : World} {v : Value} {xs : List ByteArray} (h : StrsAt w v xs) (b : Below w.heap.size w w') : StrsAt w' v xs := SliceAt.below h b
theorem fix_form {w : World} {v : Value} {ns : List Fx} (h : FixAt w v ns) : ∃ p c, v = .slice p ns.length c := by
  obtain ⟨_, p, cap, h1, _⟩ := h
  exact ⟨p, cap, h1⟩
theorem FRow.at {base : Nat} {w : World} {v : Value} {fs : List Fx} (h : FRow base w v fs) : FixAt w v fs := SliceAt.of_owns h
theorem IRow.at {base : Nat} {w : World} {v : Value} {fs : List Int} (h : IRow base w v fs) : IntsAt w v fs := SliceAt.of_owns h
theorem FRow.nil (base : Nat) (w : World) : FRow base w (.slice none 0 0) [] := World.ownsRow_nil _ _ _ _
theorem IRow.nil (base : Nat) (w : World) : IRow base w (.slice none 0 0) [] := World.ownsRow_nil _ _ _ _
theorem FixAt.nil (w : World) : FixAt w (.slice none 0 0) [] := SliceAt.nil w 3
theorem IntsAt.nil (w : World) : IntsAt w (.slice none 0 0) [] := SliceAt.nil w 1
theorem FRow.after {base : Nat} {w w' : World} {v : Value} {fs : List Fx} (h : FRow base w v fs) (b : Below w.heap.size w w') : FRow base w' v fs := World.ownsRow.keep h fun g hg => b.block g (World.ownsRow.there h hg).2
theorem IRow.after {base : Nat} {w w' : World} {v : Value} {fs : List Int} (h : IRow base w v fs) (b : Below w.heap.size w w') : IRow base w' v fs := World.ownsRow.keep h fun g hg => b.block g (World.ownsRow.there h hg).2
theorem info_of' {P : Program} {t : TypeId} {z : Value} {s b : Nat} (h : (P.info? t).map (fun i => (i.zero, i.size, i.bytes)) = some (some z, s, b)) : ∃ i, P.info? t = some i ∧ i.zero = some z ∧ i.size = s ∧ i.bytes = b := by
  cases hq : P.info? t with
  | none => rw [hq] at h; simp at h
  | some i => rw [hq] at h; simp at h; exact ⟨i, rfl, h.1, h.2.1, h.2.2⟩
def zeroFix : Value := .agg #[.string ByteArray.empty, .int .i64 0, .int .i64 0]
theorem infoFix : ∃ i, Tryz.prog.info? 41 = some i ∧ i.zero = some zeroFix ∧ i.size = 3 ∧ i.bytes = 32 := info_of' (by kernel_rfl)
theorem infoInt : ∃ i, Tryz.prog.info? 3 = some i ∧ i.zero = some (.int .i64 0) ∧ i.size = 1 ∧ i.bytes = 8 := info_of' (by kernel_rfl)
end Go.Proofs.YtggjckalmlploaaGreatDoor.Lx
/- Library functions: the shelf's structures at this program. -/
namespace Go.Proofs.YtggjckalmlploaaGreatDoor.Lx
open Go.Shelf Go.RowKit Go.Lib Go.Sort
def sortLays_ren : Go.Shelf.Ren := ⟨fun | 6 => 42 | 15 => 77 | 14 => 76 | 28 => 108 | 29 => 109 | 20 => 100 | 21 => 101 | 22 => 102 | 23 => 103 | 24 => 104 | 25 => 105 | 26 => 106 | 27 => 107 | 46 => 130 | 47 => 131 | 48 => 132 | 49 => 133 | 50 => 134 | 57 => 142 | n => n, fun | 22 => 22 | 24 => 41 | 25 => 79 | 3 => 3 | 39 => 114 | 0 => 0 | 53 => 143 | 55 => 145 | 4 => 4 | 46 => 136 | 45 => 135 | 50 => 140 | 5 => 5 | 9 => 9 | 66 => 157 | 70 => 161 | 76 => 176 | 77 => 177 | n => n, fun | n => n⟩
theorem sortLays : Go.Proofs.SlLaysF0.n6 Tryz.prog sortLays_ren where
  mixed := by kernel_rfl
  f6 := ⟨ "slices.SortFunc[[]triglyph/api.Fix,triglyph/api.Fix]", by decide, Tryz.func42.trans (congrArg some (by kernel_rfl))⟩
  f14 := ⟨ "slices.pdqsortCmpFunc[triglyph/api.Fix]", by decide, Tryz.func76.trans (congrArg some (by kernel_rfl))⟩
  f15 := Tryz.func77.trans (congrArg some (by kernel_rfl))
  f20 := ⟨ "slices.insertionSortCmpFunc[triglyph/api.Fix]", by decide, Tryz.func100.trans (congrArg some (by kernel_rfl))⟩
  f21 := ⟨ "slices.heapSortCmpFunc[triglyph/api.Fix]", by decide, Tryz.func101.trans (congrArg some (by kernel_rfl))⟩
  f22 := ⟨ "slices.breakPatternsCmpFunc[triglyph/api.Fix]", by decide, Tryz.func102.trans (congrArg some (by kernel_rfl))⟩
  f23 := ⟨ "slices.choosePivotCmpFunc[triglyph/api.Fix]", by decide, Tryz.func103.trans (congrArg some (by kernel_rfl))⟩
  f24 := ⟨ "slices.reverseRangeCmpFunc[triglyph/api.Fix]", by decide, Tryz.func104.trans (congrArg some (by kernel_rfl))⟩
  f25 := ⟨ "slices.partialInsertionSortCmpFunc[triglyph/api.Fix]", by decide, Tryz.func105.trans (congrArg some (by kernel_rfl))⟩
  f26 := ⟨ "slices.partitionEqualCmpFunc[triglyph/api.Fix]", by decide, Tryz.func106.trans (congrArg some (by kernel_rfl))⟩
  f27 := ⟨ "slices.partitionCmpFunc[triglyph/api.Fix]", by decide, Tryz.func107.trans (congrArg some (by kernel_rfl))⟩
  f28 := Tryz.func108.trans (congrArg some (by kernel_rfl))
  f29 := Tryz.func109.trans (congrArg some (by kernel_rfl))
  f46 := ⟨ "slices.siftDownCmpFunc[triglyph/api.Fix]", by decide, Tryz.func130.trans (congrArg some (by kernel_rfl))⟩
  f47 := Tryz.func131.trans (congrArg some (by kernel_rfl))
  f48 := Tryz.func132.trans (congrArg some (by kernel_rfl))
  f49 := ⟨ "slices.medianAdjacentCmpFunc[triglyph/api.Fix]", by decide, Tryz.func133.trans (congrArg some (by kernel_rfl))⟩
  f50 := ⟨ "slices.medianCmpFunc[triglyph/api.Fix]", by decide, Tryz.func134.trans (congrArg some (by kernel_rfl))⟩
  f57 := ⟨ "slices.order2CmpFunc[triglyph/api.Fix]", by decide, Tryz.func142.trans (congrArg some (by kernel_rfl))⟩
  t0 := Tryz.underlying0
  a0 := Tryz.isAgg0
  z0 := Tryz.sizeOf0
  v0 := Tryz.zeroValue0
  t3 := Tryz.underlying3
  a3 := Tryz.isAgg3
  z3 := Tryz.sizeOf3
  v3 := Tryz.zeroValue3
  t4 := Tryz.underlying4
  a4 := Tryz.isAgg4
  z4 := Tryz.sizeOf4
  v4 := Tryz.zeroValue4
  t5 := Tryz.underlying5
  a5 := Tryz.isAgg5
  z5 := Tryz.sizeOf5
  v5 := Tryz.zeroValue5
  t9 := Tryz.underlying9
  a9 := Tryz.isAgg9
  z9 := Tryz.sizeOf9
  v9 := Tryz.zeroValue9
  t22 := Tryz.underlying22
  a22 := Tryz.isAgg22
  z22 := Tryz.sizeOf22
  v22 := Tryz.zeroValue22
  t25 := Tryz.underlying79
  a25 := Tryz.isAgg79
  z25 := Tryz.sizeOf79
  v25 := Tryz.zeroValue79
  t39 := Tryz.underlying114
  a39 := Tryz.isAgg114
  z39 := Tryz.sizeOf114
  v39 := Tryz.zeroValue114
  t45 := Tryz.underlying135
  a45 := Tryz.isAgg135
  z45 := Tryz.sizeOf135
  v45 := Tryz.zeroValue135
  t46 := Tryz.underlying136
  a46 := Tryz.isAgg136
  z46 := Tryz.sizeOf136
  v46 := Tryz.zeroValue136
  t50 := Tryz.underlying140
  a50 := Tryz.isAgg140
  z50 := Tryz.sizeOf140
  v50 := Tryz.zeroValue140
  t53 := Tryz.underlying143
  a53 := Tryz.isAgg143
  z53 := Tryz.sizeOf143
  v53 := Tryz.zeroValue143
  t55 := Tryz.underlying145
  a55 := Tryz.isAgg145
  z55 := Tryz.sizeOf145
  v55 := Tryz.zeroValue145
  t66 := Tryz.underlying157
  a66 := Tryz.isAgg157
  z66 := Tryz.sizeOf157
  v66 := Tryz.zeroValue157
  t70 := Tryz.underlying161
  a70 := Tryz.isAgg161
  z70 := Tryz.sizeOf161
  v70 := Tryz.zeroValue161
  t76 := Tryz.underlying176
  a76 := Tryz.isAgg176
  z76 := Tryz.sizeOf176
  v76 := Tryz.zeroValue176
  t77 := Tryz.underlying177
  a77 := Tryz.isAgg177
  z77 := Tryz.sizeOf177
  v77 := Tryz.zeroValue177
def indexLays_ren : Go.Shelf.Ren := ⟨fun | 6 => 40 | n => n, fun | 22 => 22 | 23 => 41 | 25 => 57 | 3 => 3 | 0 => 0 | 4 => 4 | n => n, fun | n => n⟩
theorem indexLays : Go.Proofs.SlLaysH0.n6 Tryz.prog indexLays_ren where
  mixed := by kernel_rfl
  f6 := ⟨ "slices.IndexFunc[[]triglyph/api.Fix,triglyph/api.Fix]", by decide, Tryz.func40.trans (congrArg some (by kernel_rfl))⟩
  t0 := Tryz.underlying0
  a0 := Tryz.isAgg0
  z0 := Tryz.sizeOf0
  v0 := Tryz.zeroValue0
  t3 := Tryz.underlying3
  a3 := Tryz.isAgg3
  z3 := Tryz.sizeOf3
  v3 := Tryz.zeroValue3
  t4 := Tryz.underlying4
  a4 := Tryz.isAgg4
  z4 := Tryz.sizeOf4
  v4 := Tryz.zeroValue4
  t22 := Tryz.underlying22
  a22 := Tryz.isAgg22
  z22 := Tryz.sizeOf22
  v22 := Tryz.zeroValue22
  t25 := Tryz.underlying57
  a25 := Tryz.isAgg57
  z25 := Tryz.sizeOf57
  v25 := Tryz.zeroValue57
def containsLays_ren : Go.Shelf.Ren := ⟨fun | 8 => 22 | 6 => 40 | n => n, fun | 22 => 22 | 23 => 41 | 25 => 57 | 4 => 4 | 3 => 3 | 0 => 0 | n => n, fun | n => n⟩
theorem containsLays : Go.Proofs.SlLaysH0.n8 Tryz.prog containsLays_ren where
  mixed := by kernel_rfl
  f6 := ⟨ "slices.IndexFunc[[]triglyph/api.Fix,triglyph/api.Fix]", by decide, Tryz.func40.trans (congrArg some (by kernel_rfl))⟩
  f8 := ⟨ "slices.ContainsFunc[[]triglyph/api.Fix,triglyph/api.Fix]", by decide, Tryz.func22.trans (congrArg some (by kernel_rfl))⟩
  t0 := Tryz.underlying0
  a0 := Tryz.isAgg0
  z0 := Tryz.sizeOf0
  v0 := Tryz.zeroValue0
  t3 := Tryz.underlying3
  a3 := Tryz.isAgg3
  z3 := Tryz.sizeOf3
  v3 := Tryz.zeroValue3
  t4 := Tryz.underlying4
  a4 := Tryz.isAgg4
  z4 := Tryz.sizeOf4
  v4 := Tryz.zeroValue4
  t22 := Tryz.underlying22
  a22 := Tryz.isAgg22
  z22 := Tryz.sizeOf22
  v22 := Tryz.zeroValue22
  t25 := Tryz.underlying57
  a25 := Tryz.isAgg57
  z25 := Tryz.sizeOf57
  v25 := Tryz.zeroValue57
def cloneLays_ren : Go.Shelf.Ren := ⟨fun | 41 => 41 | n => n, fun | 22 => 22 | 23 => 41 | 4 => 4 | n => n, fun | n => n⟩
theorem cloneLays : Go.Proofs.SlLaysE0.n41 Tryz.prog cloneLays_ren where
  mixed := by kernel_rfl
  f41 := ⟨ "slices.Clone[[]triglyph/api.Fix,triglyph/api.Fix]", by decide, Tryz.func41.trans (congrArg some (by kernel_rfl))⟩
  t4 := Tryz.underlying4
  a4 := Tryz.isAgg4
  z4 := Tryz.sizeOf4
  v4 := Tryz.zeroValue4
  t22 := Tryz.underlying22
  a22 := Tryz.isAgg22
  z22 := Tryz.sizeOf22
  v22 := Tryz.zeroValue22
end Go.Proofs.YtggjckalmlploaaGreatDoor.Lx
