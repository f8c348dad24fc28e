/- Texts of this seat, one behind the other: TxB, TxC. -/
import Derived.Shelf.Strings.BuilderK
import Derived.Shelf.Strconv.Itoa4
import Derived.Test.YtncifeeinogcnaaDoorKn30
import Derived.Lib.Hide
import Derived.Deep.CutBlock
/- Library functions: strings.Builder, strconv.FormatInt. -/
set_option maxRecDepth 100000
namespace Go.Proofs.YtncifeeinogcnaaDoor
open Go.Shelf Go.RowKit Go.Lib Go.Sort
def bwLays_ren : Go.Shelf.Ren := ⟨fun | 166 => 56 | 240 => 68 | 276 => 78 | 169 => 41 | n => n, fun | 9 => 9 | 3 => 3 | 4 => 4 | 20 => 20 | 0 => 0 | 5 => 5 | 72 => 77 | 70 => 74 | 37 => 75 | 75 => 94 | 127 => 99 | 164 => 113 | 80 => 79 | n => n, fun | n => n⟩
theorem bwLays : Go.Proofs.Lays.n166 Tryd.prog bwLays_ren where
  mixed := by kernel_rfl
  f166 := Tryd.func56.trans (congrArg some (by kernel_rfl))
  f240 := Tryd.func68.trans (congrArg some (by kernel_rfl))
  f276 := Tryd.func78.trans (congrArg some (by kernel_rfl))
  t0 := Tryd.underlying0
  a0 := Tryd.isAgg0
  z0 := Tryd.sizeOf0
  v0 := Tryd.zeroValue0
  t3 := Tryd.underlying3
  a3 := Tryd.isAgg3
  z3 := Tryd.sizeOf3
  v3 := Tryd.zeroValue3
  t4 := Tryd.underlying4
  a4 := Tryd.isAgg4
  z4 := Tryd.sizeOf4
  v4 := Tryd.zeroValue4
  t9 := Tryd.underlying9
  a9 := Tryd.isAgg9
  z9 := Tryd.sizeOf9
  v9 := Tryd.zeroValue9
  t20 := Tryd.underlying20
  a20 := Tryd.isAgg20
  z20 := Tryd.sizeOf20
  v20 := Tryd.zeroValue20
  t37 := Tryd.underlying75
  a37 := Tryd.isAgg75
  z37 := Tryd.sizeOf75
  v37 := Tryd.zeroValue75
  t70 := Tryd.underlying74
  a70 := Tryd.isAgg74
  z70 := Tryd.sizeOf74
  v70 := Tryd.zeroValue74
  t72 := Tryd.underlying77
  a72 := Tryd.isAgg77
  z72 := Tryd.sizeOf77
  v72 := Tryd.zeroValue77
  t75 := Tryd.underlying94
  a75 := Tryd.isAgg94
  z75 := Tryd.sizeOf94
  v75 := Tryd.zeroValue94
  t164 := Tryd.underlying113
  a164 := Tryd.isAgg113
  z164 := Tryd.sizeOf113
  v164 := Tryd.zeroValue113
theorem bwExtra : Builder.Extra Tryd.prog bwLays_ren where
  sizeBuilder := by kernel_rfl
  liesBuilder := by kernel_rfl
  t5 := Tryd.underlying5
  a5 := Tryd.isAgg5
  z5 := Tryd.sizeOf5
  v5 := Tryd.zeroValue5
  infoByte := by kernel_rfl
  cellsByte := by kernel_rfl
  sizeByte := by kernel_rfl
  neB5 := by decide
theorem bsLays : Go.Proofs.Lays.n169 Tryd.prog bwLays_ren where
  mixed := by kernel_rfl
  f169 := Tryd.func41.trans (congrArg some (by kernel_rfl))
  t0 := Tryd.underlying0
  a0 := Tryd.isAgg0
  z0 := Tryd.sizeOf0
  v0 := Tryd.zeroValue0
  t3 := Tryd.underlying3
  a3 := Tryd.isAgg3
  z3 := Tryd.sizeOf3
  v3 := Tryd.zeroValue3
  t9 := Tryd.underlying9
  a9 := Tryd.isAgg9
  z9 := Tryd.sizeOf9
  v9 := Tryd.zeroValue9
  t37 := Tryd.underlying75
  a37 := Tryd.isAgg75
  z37 := Tryd.sizeOf75
  v37 := Tryd.zeroValue75
  t70 := Tryd.underlying74
  a70 := Tryd.isAgg74
  z70 := Tryd.sizeOf74
  v70 := Tryd.zeroValue74
  t72 := Tryd.underlying77
  a72 := Tryd.isAgg77
  z72 := Tryd.sizeOf77
  v72 := Tryd.zeroValue77
  t127 := Tryd.underlying99
  a127 := Tryd.isAgg99
  z127 := Tryd.sizeOf99
  v127 := Tryd.zeroValue99
def fmtLays_ren : Go.Shelf.Ren := ⟨fun | 173 => 57 | 246 => 69 | 283 => 79 | 284 => 80 | 285 => 81 | 286 => 82 | 129 => 90 | 317 => 89 | 318 => 91 | 319 => 92 | 320 => 93 | 337 => 97 | 338 => 98 | n => n, fun | 2 => 2 | 3 => 3 | 9 => 9 | 4 => 4 | 171 => 116 | 0 => 0 | 53 => 117 | 37 => 75 | 5 => 5 | 173 => 120 | 212 => 129 | 51 => 130 | 20 => 20 | 213 => 131 | 46 => 126 | 232 => 136 | 233 => 137 | n => n, fun | 17 => 0 | 18 => 1 | 19 => 2 | n => n⟩
theorem fmtLays : Go.Proofs.LaysM.n173 Tryd.prog fmtLays_ren where
  mixed := by kernel_rfl
  f129 := Tryd.func90.trans (congrArg some (by kernel_rfl))
  f173 := Tryd.func57.trans (congrArg some (by kernel_rfl))
  f246 := Tryd.func69.trans (congrArg some (by kernel_rfl))
  f283 := Tryd.func79.trans (congrArg some (by kernel_rfl))
  f284 := Tryd.func80.trans (congrArg some (by kernel_rfl))
  f285 := Tryd.func81.trans (congrArg some (by kernel_rfl))
  f286 := Tryd.func82.trans (congrArg some (by kernel_rfl))
  f317 := Tryd.func89.trans (congrArg some (by kernel_rfl))
  f318 := Tryd.func91.trans (congrArg some (by kernel_rfl))
  f319 := Tryd.func92.trans (congrArg some (by kernel_rfl))
  f320 := Tryd.func93.trans (congrArg some (by kernel_rfl))
  f337 := Tryd.func97.trans (congrArg some (by kernel_rfl))
  f338 := Tryd.func98.trans (congrArg some (by kernel_rfl))
  t0 := Tryd.underlying0
  a0 := Tryd.isAgg0
  z0 := Tryd.sizeOf0
  v0 := Tryd.zeroValue0
  t2 := Tryd.underlying2
  a2 := Tryd.isAgg2
  z2 := Tryd.sizeOf2
  v2 := Tryd.zeroValue2
  t3 := Tryd.underlying3
  a3 := Tryd.isAgg3
  z3 := Tryd.sizeOf3
  v3 := Tryd.zeroValue3
  t4 := Tryd.underlying4
  a4 := Tryd.isAgg4
  z4 := Tryd.sizeOf4
  v4 := Tryd.zeroValue4
  t5 := Tryd.underlying5
  a5 := Tryd.isAgg5
  z5 := Tryd.sizeOf5
  v5 := Tryd.zeroValue5
  t9 := Tryd.underlying9
  a9 := Tryd.isAgg9
  z9 := Tryd.sizeOf9
  v9 := Tryd.zeroValue9
  t20 := Tryd.underlying20
  a20 := Tryd.isAgg20
  z20 := Tryd.sizeOf20
  v20 := Tryd.zeroValue20
  t37 := Tryd.underlying75
  a37 := Tryd.isAgg75
  z37 := Tryd.sizeOf75
  v37 := Tryd.zeroValue75
  t46 := Tryd.underlying126
  a46 := Tryd.isAgg126
  z46 := Tryd.sizeOf126
  v46 := Tryd.zeroValue126
  t51 := Tryd.underlying130
  a51 := Tryd.isAgg130
  z51 := Tryd.sizeOf130
  v51 := Tryd.zeroValue130
  t53 := Tryd.underlying117
  a53 := Tryd.isAgg117
  z53 := Tryd.sizeOf117
  v53 := Tryd.zeroValue117
  t171 := Tryd.underlying116
  a171 := Tryd.isAgg116
  z171 := Tryd.sizeOf116
  v171 := Tryd.zeroValue116
  t173 := Tryd.underlying120
  a173 := Tryd.isAgg120
  z173 := Tryd.sizeOf120
  v173 := Tryd.zeroValue120
  t212 := Tryd.underlying129
  a212 := Tryd.isAgg129
  z212 := Tryd.sizeOf129
  v212 := Tryd.zeroValue129
  t213 := Tryd.underlying131
  a213 := Tryd.isAgg131
  z213 := Tryd.sizeOf131
  t232 := Tryd.underlying136
  a232 := Tryd.isAgg136
  z232 := Tryd.sizeOf136
  v232 := Tryd.zeroValue136
  t233 := Tryd.underlying137
  a233 := Tryd.isAgg137
  z233 := Tryd.sizeOf137
  v233 := Tryd.zeroValue137
  g17 := by kernel_rfl
  g18 := by kernel_rfl
  g19 := by kernel_rfl
  i0 := by kernel_rfl
  i2 := by kernel_rfl
  i3 := by kernel_rfl
  i4 := by kernel_rfl
  i5 := by kernel_rfl
  i9 := by kernel_rfl
  i20 := by kernel_rfl
  i37 := by kernel_rfl
  i46 := by kernel_rfl
  i51 := by kernel_rfl
  i53 := by kernel_rfl
  i171 := by kernel_rfl
  i173 := by kernel_rfl
  i212 := by kernel_rfl
  i232 := by kernel_rfl
  i233 := by kernel_rfl
  m17 := by kernel_rfl
  m18 := by kernel_rfl
  m19 := by kernel_rfl
theorem write_any (B b : Nat) (bs : List Value) (s : ByteArray) (w : World) (h : Lib.IsBuilderF 77 5 B b bs w) (hlen : bs.length + s.size ≤ 140737488355328) (hBw : B ≤ w.heap.size) :
    Calls Tryd.prog 56 #[.pointer (some ⟨b, 0, none⟩), .string s] w fun e w' => e = .returned (.tuple #[.int .i64 s.size, .nilIface]) ∧ (Lib.BuilderAtF 77 5 B b (.pointer (some ⟨b, 0, none⟩)) (bs ++ Lib.strCells s) w' ∧ Below B w w' ∧ Lib.OthersKept 5 (some b) w w') :=
  Any.Builder_WriteString_k bwLays bwExtra B b bs s w h hlen hBw
theorem string_any (B b : Nat) (l : List UInt8) (w : World) (h : Lib.IsBuilderF 77 5 B b (Lib.byteCells l) w) (hBw : B ≤ w.heap.size) :
    Calls Tryd.prog 41 #[.pointer (some ⟨b, 0, none⟩)] w fun e w' => e = .returned (.string ⟨l.toArray⟩) ∧ (Lib.IsBuilderF 77 5 B b (Lib.byteCells l) w' ∧ Below B w w' ∧ Lib.OthersKept 5 (some b) w w') :=
  Any.Builder_String_any_k bsLays bwExtra B b l w h hBw
theorem format_any (n : Int) (h0 : -9223372036854775808 ≤ n) (h1 : n ≤ 9223372036854775807) (w : World) (htab : Lib.TabIs Tryd.prog w "internal/strconv.uint64pow10" .u64 Lib.pow10Tab) :
    Calls Tryd.prog 57 #[.int .i64 n, .int .i64 10] w fun e w' => e = .returned (.string ⟨(Lib.itoa n).toArray⟩) ∧ ∃ k os, w' = Sort.grow (w.drewN k) os := Any.strconv_FormatInt_10 fmtLays n h0 h1 w htab
theorem bld_below {T e : TypeId} {B b : Nat} {bs : List Value} {w w' : World} (h : Lib.IsBuilderF T e B b bs w) (k : Below w.heap.size w w') : Lib.IsBuilderF T e B b bs w' := by
  have key : ∀ p, Lib.BuilderAtF T e B b p bs w → Lib.BuilderAtF T e B b p bs w' := by
    rintro p ⟨h1, v, h2, h3, h4⟩
    refine ⟨h1, v, (k.block _ (Array.getElem?_eq_some_iff.1 h2).1).trans h2, ⟨h3.1, ?_⟩, h4⟩
    rcases h3.2 with h | ⟨g, cap, cur, fz, hv, hb, hg, rest⟩
    · exact .inl h
    · exact .inr ⟨g, cap, cur, fz, hv, hb, (k.block _ (Array.getElem?_eq_some_iff.1 hg).1).trans hg, rest⟩
  exact h.elim (fun x => .inl (key _ x)) (fun x => .inr (key _ x))
theorem bld_lt {T e : TypeId} {B b : Nat} {bs : List Value} {w : World} (h : Lib.IsBuilderF T e B b bs w) : b < w.heap.size := by
  rcases h with h | h <;> exact h.lt
/-- The text so far is l; all that was in the world W is as it was. -/
structure TS (W : World) (b : Nat) (l : List UInt8) (w : World) : Prop where
  bel : Below W.heap.size W w
  bld : Lib.IsBuilderF 77 5 W.heap.size b (Lib.byteCells l) w
theorem TS.below {W : World} {b : Nat} {l : List UInt8} {w w' : World} (h : TS W b l w) (k : Below w.heap.size w w') : TS W b l w' := ⟨h.bel.trans (k.mono h.bel.size), bld_below h.bld k⟩
theorem wr_any (W : World) (b : Nat) (l : List UInt8) (s : ByteArray) (w : World) (h : TS W b l w) (hlen : l.length + s.size ≤ 140737488355328) :
    Calls Tryd.prog 56 #[.pointer (some ⟨b, 0, none⟩), .string s] w fun e w' => e = .returned (.tuple #[.int .i64 s.size, .nilIface]) ∧ TS W b (l ++ s.data.toList) w' ∧ Lib.OthersKept 5 (some b) w w' := by
  refine (write_any W.heap.size b (Lib.byteCells l) s w h.bld (by rw [Lib.byteCells_length]; exact hlen) h.bel.size).mono ?_
  rintro e w1 ⟨rfl, h1, h2, h3⟩
  refine ⟨rfl, ⟨h.bel.trans h2, .inr ?_⟩, h3⟩
  have e : Lib.byteCells (l ++ s.data.toList) = Lib.byteCells l ++ Lib.strCells s := by simp [Lib.byteCells, Lib.strCells]
  rw [e]
  exact h1
end Go.Proofs.YtncifeeinogcnaaDoor
/- Show: a type's text is written. -/
set_option maxRecDepth 100000
namespace Go.Proofs.YtncifeeinogcnaaDoor
open Go.Shelf Go.RowKit Go.Lib Go.Sort Go.Proofs.TreeMath

/-- Is a node's tree set in brackets? By one of two functions. -/
theorem enc1_any (m : Nd) (w : World) : Calls Tryd.prog 59 #[m.val] w fun e w' => e = .returned (.bool (decide (m.text = sArrow))) ∧ Below w.heap.size w w' := by
  obtain ⟨k, s, nm, c⟩ := m
  have A : ∀ b : Bool, (decide (s = sArrow)) = b → Hid (∀ w', Below w.heap.size w w' → (Ending.returned (.bool b) = .returned (.bool (decide (s = sArrow))) ∧ Below w.heap.size w w')) := fun b hb => Lib.hid fun w' h => ⟨by rw [hb], h⟩
  have BA : Hid (Below w.heap.size w (w.alloc (.cells #[.int .i64 k, .string s, .int .i64 nm, .int .i64 c] 42))) := Lib.hid ((Below.refl _ _).alloc (Nat.le_refl _) _)
  unfold Nd.val
  show Calls Tryd.prog 59 #[.agg #[.int .i64 k, .string s, .int .i64 nm, .int .i64 c]] w fun e w' => e = .returned (.bool (decide (s = sArrow))) ∧ Below w.heap.size w w'
  by_cases h : s = sArrow
  · have E := A true (by simp [h])
    generalize decide (s = sArrow) = z at *
    subst h
    unfold sArrow at *
    clear A
    go_enter Tryd.func59, Tryd.ntmps59
    go_wp2
    go_ret
    exact E.out _ BA.out
  · have E := A false (by simpa using h)
    have t1 := str_ne h
    rw [tl_arrow] at t1
    have t2 := str_ne' h
    rw [tl_arrow] at t2
    generalize decide (s = sArrow) = z at *
    clear A h
    go_enter Tryd.func59, Tryd.ntmps59
    go_wp2
    go_ret
    exact E.out _ BA.out
theorem enc2_any (m : Nd) (w : World) : Calls Tryd.prog 60 #[m.val] w fun e w' => e = .returned (.bool (decide (0 < m.kids))) ∧ Below w.heap.size w w' := by
  obtain ⟨k, s, nm, c⟩ := m
  have BA : Hid (Below w.heap.size w (w.alloc (.cells #[.int .i64 k, .string s, .int .i64 nm, .int .i64 c] 42))) := Lib.hid ((Below.refl _ _).alloc (Nat.le_refl _) _)
  unfold Nd.val
  show Calls Tryd.prog 60 #[.agg #[.int .i64 k, .string s, .int .i64 nm, .int .i64 c]] w fun e w' => e = .returned (.bool (decide (0 < c))) ∧ Below w.heap.size w w'
  cases hz : decide (0 < c) with
  | true =>
    go_enter Tryd.func60, Tryd.ntmps60
    go_wp2
    go_ret
    exact ⟨rfl, BA.out⟩
  | false =>
    go_enter Tryd.func60, Tryd.ntmps60
    go_wp2
    go_ret
    exact ⟨rfl, BA.out⟩
def WPost (W : World) (b next : Nat) (l : List UInt8) (e : Ending) (w' : World) : Prop := e = .returned (.int .i64 (next : Int)) ∧ TS W b l w'
/-- That a tree's text is written as it should. -/
def GoodW (W : World) (b : Nat) (tv : Value) (ns : List Nd) (n : Nd) (k : F) : Prop :=
  ∀ (pre post : List Nd) (l : List UInt8) (w : World), ns = pre ++ (n :: (k.flat ++ post)) → l.length + 100000020 * (1 + k.sz) ≤ 140737488355328 → TS W b l w →
    Calls Tryd.prog 40 #[.pointer (some ⟨b, 0, none⟩), tv, .int .i64 (pre.length : Int)] w (WPost W b (pre.length + 1 + k.sz) (l ++ shN n (shF k)))
def AllGoodW (W : World) (b : Nat) (tv : Value) (ns : List Nd) : F → Prop
  | .nil => True
  | .cons n k r => GoodW W b tv ns n k ∧ AllGoodW W b tv ns r
theorem shN_one (n : Nd) (k : F) (h : okT (.cons n k .nil)) : (shN n (shF k)).length + 3 ≤ 100000020 * (1 + k.sz) := by
  have := shF_len _ h
  simp only [shF, F.sz] at this
  rw [shL_cons] at this
  simp only [shL, List.map_nil, List.sum_nil] at this
  omega
set_option maxHeartbeats 2000000 in
/-- A part, in brackets or not. -/
theorem part_good (W : World) (b : Nat) (tv : Value) (ns : List Nd) (n : Nd) (k : F) (g : Nat) (y : Bool) (hg : Hid (∀ vs w, (callFunc g vs).run Tryd.prog w = .ok (.enter g vs) w)) (hns : NodesAt W tv ns) (hn4 : ns.length ≤ 4000) (hk : Hid (GoodW W b tv ns n k)) (ht : okT (.cons n k .nil))
    (hf : Hid (∀ w, Calls Tryd.prog g #[n.val] w fun e w' => e = .returned (.bool y) ∧ Below w.heap.size w w')) (pre post : List Nd) (l : List UInt8) (w : World) (he : ns = pre ++ (n :: (k.flat ++ post))) (hl : l.length + 100000020 * (1 + k.sz) + 2 ≤ 140737488355328) (hT : TS W b l w) :
    Calls Tryd.prog 58 #[.pointer (some ⟨b, 0, none⟩), tv, .int .i64 (pre.length : Int), .func (.func g) #[] #[]] w (WPost W b (pre.length + 1 + k.sz) (l ++ brk y (shN n (shF k)))) := by
  have hlen : pre.length < ns.length := by rw [he]; simp
  have hnode : ns.getD pre.length default = n := by rw [he]; simp [List.getD_eq_getElem?_getD]
  obtain ⟨_, q, c, rfl, _, _, g4⟩ := hns
  obtain ⟨bb, off, rfl, hb, hc⟩ := g4 (by omega)
  obtain ⟨c0, c1, c2, c3⟩ := CellsIn.node (hc.kept (hT.bel.block bb hb)) pre.length hlen
  rw [hnode] at c0 c1 c2 c3
  have LEN := Lib.hid (shN_one n k ht)
  have HT := Lib.hid hT
  have HE := Lib.hid he
  have HL := Lib.hid hl
  have hi9 : ns.length ≤ 4000 := hn4
  obtain ⟨I, hI⟩ : ∃ I, I = pre.length := ⟨_, rfl⟩
  obtain ⟨M, hM⟩ : ∃ M, M = ns.length := ⟨_, rfl⟩
  have CALL : Hid (∀ (l' : List UInt8) (w' : World), l'.length + 100000020 * (1 + k.sz) ≤ 140737488355328 → TS W b l' w' → Calls Tryd.prog 40 #[.pointer (some ⟨b, 0, none⟩), .slice (some ⟨bb, off, none⟩) M c, .int .i64 (I : Int)] w' (WPost W b (I + 1 + k.sz) (l' ++ shN n (shF k)))) := Lib.hid fun l' w' h1 h2 => by
    rw [hI, hM]; exact hk.out pre post l' w' he h1 h2
  rw [← hI] at c0 c1 c2 c3 hlen ⊢
  rw [← hM] at hlen hi9 ⊢
  obtain ⟨NX, hNX⟩ : ∃ NX, NX = I + 1 + k.sz := ⟨_, rfl⟩
  rw [← hNX] at CALL ⊢
  clear hNX
  have HI := Lib.hid hI
  have HM := Lib.hid hM
  clear hI hM hT he hl hk hc hb g4 hnode hn4 ht
  obtain ⟨nk, nt, nn, nc⟩ := n
  simp only at c0 c1 c2 c3
  have FN := Lib.hid hf.out
  unfold Nd.val at FN
  simp only at FN
  clear hf
  cases y with
  | false =>
    have E : Hid (∀ w', WPost W b NX (l ++ shN ⟨nk, nt, nn, nc⟩ (shF k)) (.returned (.int .i64 (NX : Int))) w' → WPost W b NX (l ++ brk false (shN ⟨nk, nt, nn, nc⟩ (shF k))) (.returned (.int .i64 (NX : Int))) w') := Lib.hid fun _ h => h
    generalize hZ : WPost W b NX (l ++ brk false (shN ⟨nk, nt, nn, nc⟩ (shF k))) = Z at *
    clear hZ
    go_enter Tryd.func58, Tryd.ntmps58
    go_wp2_with ((refine wpList_call_slot (o := ⟨some 14, _, _, _, _, _⟩) rfl 9 _ _ rfl g #[] rfl hg.out (#[.agg #[.int .i64 nk, .string nt, .int .i64 nn, .int .i64 nc]]) (by simp [go_sem]) ?_; refine (FN.out _).mono ?_; rintro e w1 ⟨rfl, b1⟩; refine ⟨_, rfl, ?_⟩; simp only [Act.put, List.setIfInBounds_toArray, List.set_cons_succ, List.set_cons_zero]))
    have H1 := Lib.hid (HT.out.below b1)
    clear b1
    go_wp2_with fail
    refine (CALL.out l w1 (by have := HL.out; omega) H1.out).mono ?_
    rintro e w2 ⟨rfl, h2⟩
    have H2 := Lib.hid (E.out _ ⟨rfl, h2⟩)
    clear h2
    go_wp2
    first | go_ret | skip
    exact H2.out
  | true =>
    have E : Hid (∀ w', TS W b (l ++ [40] ++ shN ⟨nk, nt, nn, nc⟩ (shF k) ++ [41]) w' → WPost W b NX (l ++ brk true (shN ⟨nk, nt, nn, nc⟩ (shF k))) (.returned (.int .i64 (NX : Int))) w') := Lib.hid fun _ h => ⟨rfl, by
      have e : l ++ brk true (shN ⟨nk, nt, nn, nc⟩ (shF k)) = l ++ [40] ++ shN ⟨nk, nt, nn, nc⟩ (shF k) ++ [41] := by simp [brk]
      rw [e]; exact h⟩
    generalize hZ : WPost W b NX (l ++ brk true (shN ⟨nk, nt, nn, nc⟩ (shF k))) = Z at *
    clear hZ
    go_enter Tryd.func58, Tryd.ntmps58
    go_wp2_with ((refine wpList_call_slot (o := ⟨some 14, _, _, _, _, _⟩) rfl 9 _ _ rfl g #[] rfl hg.out (#[.agg #[.int .i64 nk, .string nt, .int .i64 nn, .int .i64 nc]]) (by simp [go_sem]) ?_; refine (FN.out _).mono ?_; rintro e w1 ⟨rfl, b1⟩; refine ⟨_, rfl, ?_⟩; simp only [Act.put, List.setIfInBounds_toArray, List.set_cons_succ, List.set_cons_zero]))
    have H1 := Lib.hid (HT.out.below b1)
    clear b1
    have W1 := Lib.hid (wr_any W b l ⟨#[40]⟩ w1 H1.out (by have := HL.out; show _ + 1 ≤ _; omega))
    go_wp2_with fail
    refine W1.out.mono ?_
    rintro e w2 ⟨rfl, h2, _⟩
    have H2 := Lib.hid h2
    clear h2 W1 H1
    go_wp2_with fail
    refine (CALL.out _ w2 (by have := HL.out; show (l ++ [40]).length + _ ≤ _; simp; omega) H2.out).mono ?_
    rintro e w3 ⟨rfl, h3⟩
    have W3 := Lib.hid (wr_any W b _ ⟨#[41]⟩ w3 h3 (by have := HL.out; have := LEN.out; show (l ++ [40] ++ _).length + 1 ≤ _; simp at *; omega))
    clear h3 H2 CALL
    go_wp2_with fail
    refine W3.out.mono ?_
    rintro e w4 ⟨rfl, h4, _⟩
    have H4 := Lib.hid (E.out _ h4)
    clear h4 W3
    go_wp2
    first | go_ret | skip
    exact H4.out
end Go.Proofs.YtncifeeinogcnaaDoor
