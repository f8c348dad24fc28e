/- Texts of this seat, one behind the other: TxB, TxC, TxD. -/
import Derived.Shelf.Strings.BuilderK
import Derived.Shelf.Strconv.Itoa4
import Derived.Test.YtncifeeinogcnaaGreatDoorKn26
import Derived.Lib.Hide
import Derived.Deep.CutBlock
/- Library functions: strings.Builder, strconv.FormatInt. -/
set_option maxRecDepth 100000
namespace Go.Proofs.YtncifeeinogcnaaGreatDoor
open Go.Shelf Go.RowKit Go.Lib Go.Sort
def bwLays_ren : Go.Shelf.Ren := ⟨fun | 166 => 83 | 240 => 117 | 276 => 132 | 169 => 44 | n => n, fun | 9 => 9 | 3 => 3 | 4 => 4 | 20 => 20 | 0 => 0 | 5 => 5 | 72 => 70 | 70 => 67 | 37 => 68 | 75 => 139 | 127 => 144 | 164 => 178 | 80 => 72 | n => n, fun | n => n⟩
theorem bwLays : Go.Proofs.Lays.n166 Tryz.prog bwLays_ren where
  mixed := by kernel_rfl
  f166 := Tryz.func83.trans (congrArg some (by kernel_rfl))
  f240 := Tryz.func117.trans (congrArg some (by kernel_rfl))
  f276 := Tryz.func132.trans (congrArg some (by kernel_rfl))
  t0 := Tryz.underlying0
  a0 := Tryz.isAgg0
  z0 := Tryz.sizeOf0
  v0 := Tryz.zeroValue0
  t3 := Tryz.underlying3
  a3 := Tryz.isAgg3
  z3 := Tryz.sizeOf3
  v3 := Tryz.zeroValue3
  t4 := Tryz.underlying4
  a4 := Tryz.isAgg4
  z4 := Tryz.sizeOf4
  v4 := Tryz.zeroValue4
  t9 := Tryz.underlying9
  a9 := Tryz.isAgg9
  z9 := Tryz.sizeOf9
  v9 := Tryz.zeroValue9
  t20 := Tryz.underlying20
  a20 := Tryz.isAgg20
  z20 := Tryz.sizeOf20
  v20 := Tryz.zeroValue20
  t37 := Tryz.underlying68
  a37 := Tryz.isAgg68
  z37 := Tryz.sizeOf68
  v37 := Tryz.zeroValue68
  t70 := Tryz.underlying67
  a70 := Tryz.isAgg67
  z70 := Tryz.sizeOf67
  v70 := Tryz.zeroValue67
  t72 := Tryz.underlying70
  a72 := Tryz.isAgg70
  z72 := Tryz.sizeOf70
  v72 := Tryz.zeroValue70
  t75 := Tryz.underlying139
  a75 := Tryz.isAgg139
  z75 := Tryz.sizeOf139
  v75 := Tryz.zeroValue139
  t164 := Tryz.underlying178
  a164 := Tryz.isAgg178
  z164 := Tryz.sizeOf178
  v164 := Tryz.zeroValue178
theorem bwExtra : Builder.Extra Tryz.prog bwLays_ren where
  sizeBuilder := by kernel_rfl
  liesBuilder := by kernel_rfl
  t5 := Tryz.underlying5
  a5 := Tryz.isAgg5
  z5 := Tryz.sizeOf5
  v5 := Tryz.zeroValue5
  infoByte := by kernel_rfl
  cellsByte := by kernel_rfl
  sizeByte := by kernel_rfl
  neB5 := by decide
theorem bsLays : Go.Proofs.Lays.n169 Tryz.prog bwLays_ren where
  mixed := by kernel_rfl
  f169 := Tryz.func44.trans (congrArg some (by kernel_rfl))
  t0 := Tryz.underlying0
  a0 := Tryz.isAgg0
  z0 := Tryz.sizeOf0
  v0 := Tryz.zeroValue0
  t3 := Tryz.underlying3
  a3 := Tryz.isAgg3
  z3 := Tryz.sizeOf3
  v3 := Tryz.zeroValue3
  t9 := Tryz.underlying9
  a9 := Tryz.isAgg9
  z9 := Tryz.sizeOf9
  v9 := Tryz.zeroValue9
  t37 := Tryz.underlying68
  a37 := Tryz.isAgg68
  z37 := Tryz.sizeOf68
  v37 := Tryz.zeroValue68
  t70 := Tryz.underlying67
  a70 := Tryz.isAgg67
  z70 := Tryz.sizeOf67
  v70 := Tryz.zeroValue67
  t72 := Tryz.underlying70
  a72 := Tryz.isAgg70
  z72 := Tryz.sizeOf70
  v72 := Tryz.zeroValue70
  t127 := Tryz.underlying144
  a127 := Tryz.isAgg144
  z127 := Tryz.sizeOf144
  v127 := Tryz.zeroValue144
def fmtLays_ren : Go.Shelf.Ren := ⟨fun | 173 => 84 | 246 => 118 | 283 => 133 | 284 => 134 | 285 => 135 | 286 => 136 | 129 => 154 | 317 => 156 | 318 => 157 | 319 => 158 | 320 => 159 | 337 => 172 | 338 => 173 | n => n, fun | 2 => 2 | 3 => 3 | 9 => 9 | 4 => 4 | 171 => 180 | 0 => 0 | 53 => 169 | 37 => 68 | 5 => 5 | 173 => 183 | 212 => 202 | 51 => 198 | 20 => 20 | 213 => 203 | 46 => 174 | 232 => 219 | 233 => 220 | n => n, fun | 17 => 0 | 18 => 1 | 19 => 2 | n => n⟩
theorem fmtLays : Go.Proofs.LaysM.n173 Tryz.prog fmtLays_ren where
  mixed := by kernel_rfl
  f129 := Tryz.func154.trans (congrArg some (by kernel_rfl))
  f173 := Tryz.func84.trans (congrArg some (by kernel_rfl))
  f246 := Tryz.func118.trans (congrArg some (by kernel_rfl))
  f283 := Tryz.func133.trans (congrArg some (by kernel_rfl))
  f284 := Tryz.func134.trans (congrArg some (by kernel_rfl))
  f285 := Tryz.func135.trans (congrArg some (by kernel_rfl))
  f286 := Tryz.func136.trans (congrArg some (by kernel_rfl))
  f317 := Tryz.func156.trans (congrArg some (by kernel_rfl))
  f318 := Tryz.func157.trans (congrArg some (by kernel_rfl))
  f319 := Tryz.func158.trans (congrArg some (by kernel_rfl))
  f320 := Tryz.func159.trans (congrArg some (by kernel_rfl))
  f337 := Tryz.func172.trans (congrArg some (by kernel_rfl))
  f338 := Tryz.func173.trans (congrArg some (by kernel_rfl))
  t0 := Tryz.underlying0
  a0 := Tryz.isAgg0
  z0 := Tryz.sizeOf0
  v0 := Tryz.zeroValue0
  t2 := Tryz.underlying2
  a2 := Tryz.isAgg2
  z2 := Tryz.sizeOf2
  v2 := Tryz.zeroValue2
  t3 := Tryz.underlying3
  a3 := Tryz.isAgg3
  z3 := Tryz.sizeOf3
  v3 := Tryz.zeroValue3
  t4 := Tryz.underlying4
  a4 := Tryz.isAgg4
  z4 := Tryz.sizeOf4
  v4 := Tryz.zeroValue4
  t5 := Tryz.underlying5
  a5 := Tryz.isAgg5
  z5 := Tryz.sizeOf5
  v5 := Tryz.zeroValue5
  t9 := Tryz.underlying9
  a9 := Tryz.isAgg9
  z9 := Tryz.sizeOf9
  v9 := Tryz.zeroValue9
  t20 := Tryz.underlying20
  a20 := Tryz.isAgg20
  z20 := Tryz.sizeOf20
  v20 := Tryz.zeroValue20
  t37 := Tryz.underlying68
  a37 := Tryz.isAgg68
  z37 := Tryz.sizeOf68
  v37 := Tryz.zeroValue68
  t46 := Tryz.underlying174
  a46 := Tryz.isAgg174
  z46 := Tryz.sizeOf174
  v46 := Tryz.zeroValue174
  t51 := Tryz.underlying198
  a51 := Tryz.isAgg198
  z51 := Tryz.sizeOf198
  v51 := Tryz.zeroValue198
  t53 := Tryz.underlying169
  a53 := Tryz.isAgg169
  z53 := Tryz.sizeOf169
  v53 := Tryz.zeroValue169
  t171 := Tryz.underlying180
  a171 := Tryz.isAgg180
  z171 := Tryz.sizeOf180
  v171 := Tryz.zeroValue180
  t173 := Tryz.underlying183
  a173 := Tryz.isAgg183
  z173 := Tryz.sizeOf183
  v173 := Tryz.zeroValue183
  t212 := Tryz.underlying202
  a212 := Tryz.isAgg202
  z212 := Tryz.sizeOf202
  v212 := Tryz.zeroValue202
  t213 := Tryz.underlying203
  a213 := Tryz.isAgg203
  z213 := Tryz.sizeOf203
  t232 := Tryz.underlying219
  a232 := Tryz.isAgg219
  z232 := Tryz.sizeOf219
  v232 := Tryz.zeroValue219
  t233 := Tryz.underlying220
  a233 := Tryz.isAgg220
  z233 := Tryz.sizeOf220
  v233 := Tryz.zeroValue220
  g17 := by kernel_rfl
  g18 := by kernel_rfl
  g19 := by kernel_rfl
  i0 := by kernel_rfl
  i2 := by kernel_rfl
  i3 := by kernel_rfl
  i4 := by kernel_rfl
  i5 := by kernel_rfl
  i9 := by kernel_rfl
  i20 := by kernel_rfl
  i37 := by kernel_rfl
  i46 := by kernel_rfl
  i51 := by kernel_rfl
  i53 := by kernel_rfl
  i171 := by kernel_rfl
  i173 := by kernel_rfl
  i212 := by kernel_rfl
  i232 := by kernel_rfl
  i233 := by kernel_rfl
  m17 := by kernel_rfl
  m18 := by kernel_rfl
  m19 := by kernel_rfl
theorem write_any (B b : Nat) (bs : List Value) (s : ByteArray) (w : World) (h : Lib.IsBuilderF 70 5 B b bs w) (hlen : bs.length + s.size ≤ 140737488355328) (hBw : B ≤ w.heap.size) :
    Calls Tryz.prog 83 #[.pointer (some ⟨b, 0, none⟩), .string s] w fun e w' => e = .returned (.tuple #[.int .i64 s.size, .nilIface]) ∧ (Lib.BuilderAtF 70 5 B b (.pointer (some ⟨b, 0, none⟩)) (bs ++ Lib.strCells s) w' ∧ Below B w w' ∧ Lib.OthersKept 5 (some b) w w') :=
  Any.Builder_WriteString_k bwLays bwExtra B b bs s w h hlen hBw
theorem string_any (B b : Nat) (l : List UInt8) (w : World) (h : Lib.IsBuilderF 70 5 B b (Lib.byteCells l) w) (hBw : B ≤ w.heap.size) :
    Calls Tryz.prog 44 #[.pointer (some ⟨b, 0, none⟩)] w fun e w' => e = .returned (.string ⟨l.toArray⟩) ∧ (Lib.IsBuilderF 70 5 B b (Lib.byteCells l) w' ∧ Below B w w' ∧ Lib.OthersKept 5 (some b) w w') :=
  Any.Builder_String_any_k bsLays bwExtra B b l w h hBw
theorem format_any (n : Int) (h0 : -9223372036854775808 ≤ n) (h1 : n ≤ 9223372036854775807) (w : World) (htab : Lib.TabIs Tryz.prog w "internal/strconv.uint64pow10" .u64 Lib.pow10Tab) :
    Calls Tryz.prog 84 #[.int .i64 n, .int .i64 10] w fun e w' => e = .returned (.string ⟨(Lib.itoa n).toArray⟩) ∧ ∃ k os, w' = Sort.grow (w.drewN k) os := Any.strconv_FormatInt_10 fmtLays n h0 h1 w htab
theorem bld_below {T e : TypeId} {B b : Nat} {bs : List Value} {w w' : World} (h : Lib.IsBuilderF T e B b bs w) (k : Below w.heap.size w w') : Lib.IsBuilderF T e B b bs w' := by
  have key : ∀ p, Lib.BuilderAtF T e B b p bs w → Lib.BuilderAtF T e B b p bs w' := by
    rintro p ⟨h1, v, h2, h3, h4⟩
    refine ⟨h1, v, (k.block _ (Array.getElem?_eq_some_iff.1 h2).1).trans h2, ⟨h3.1, ?_⟩, h4⟩
    rcases h3.2 with h | ⟨g, cap, cur, fz, hv, hb, hg, rest⟩
    · exact .inl h
    · exact .inr ⟨g, cap, cur, fz, hv, hb, (k.block _ (Array.getElem?_eq_some_iff.1 hg).1).trans hg, rest⟩
  exact h.elim (fun x => .inl (key _ x)) (fun x => .inr (key _ x))
theorem bld_lt {T e : TypeId} {B b : Nat} {bs : List Value} {w : World} (h : Lib.IsBuilderF T e B b bs w) : b < w.heap.size := by
  rcases h with h | h <;> exact h.lt
/-- The text so far is l; all that was in the world W is as it was. -/
structure TS (W : World) (b : Nat) (l : List UInt8) (w : World) : Prop where
  bel : Below W.heap.size W w
  bld : Lib.IsBuilderF 70 5 W.heap.size b (Lib.byteCells l) w
theorem TS.below {W : World} {b : Nat} {l : List UInt8} {w w' : World} (h : TS W b l w) (k : Below w.heap.size w w') : TS W b l w' := ⟨h.bel.trans (k.mono h.bel.size), bld_below h.bld k⟩
theorem wr_any (W : World) (b : Nat) (l : List UInt8) (s : ByteArray) (w : World) (h : TS W b l w) (hlen : l.length + s.size ≤ 140737488355328) :
    Calls Tryz.prog 83 #[.pointer (some ⟨b, 0, none⟩), .string s] w fun e w' => e = .returned (.tuple #[.int .i64 s.size, .nilIface]) ∧ TS W b (l ++ s.data.toList) w' ∧ Lib.OthersKept 5 (some b) w w' := by
  refine (write_any W.heap.size b (Lib.byteCells l) s w h.bld (by rw [Lib.byteCells_length]; exact hlen) h.bel.size).mono ?_
  rintro e w1 ⟨rfl, h1, h2, h3⟩
  refine ⟨rfl, ⟨h.bel.trans h2, .inr ?_⟩, h3⟩
  have e : Lib.byteCells (l ++ s.data.toList) = Lib.byteCells l ++ Lib.strCells s := by simp [Lib.byteCells, Lib.strCells]
  rw [e]
  exact h1
end Go.Proofs.YtncifeeinogcnaaGreatDoor
/- Show: a type's text is written. -/
set_option maxRecDepth 100000
namespace Go.Proofs.YtncifeeinogcnaaGreatDoor
open Go.Shelf Go.RowKit Go.Lib Go.Sort Go.Proofs.TreeMath

/-- Is a node's tree set in brackets? By one of two functions. -/
theorem enc1_any (m : Nd) (w : World) : Calls Tryz.prog 86 #[m.val] w fun e w' => e = .returned (.bool (decide (m.text = sArrow))) ∧ Below w.heap.size w w' := by
  obtain ⟨k, s, nm, c⟩ := m
  have A : ∀ b : Bool, (decide (s = sArrow)) = b → Hid (∀ w', Below w.heap.size w w' → (Ending.returned (.bool b) = .returned (.bool (decide (s = sArrow))) ∧ Below w.heap.size w w')) := fun b hb => Lib.hid fun w' h => ⟨by rw [hb], h⟩
  have BA : Hid (Below w.heap.size w (w.alloc (.cells #[.int .i64 k, .string s, .int .i64 nm, .int .i64 c] 58))) := Lib.hid ((Below.refl _ _).alloc (Nat.le_refl _) _)
  unfold Nd.val
  show Calls Tryz.prog 86 #[.agg #[.int .i64 k, .string s, .int .i64 nm, .int .i64 c]] w fun e w' => e = .returned (.bool (decide (s = sArrow))) ∧ Below w.heap.size w w'
  by_cases h : s = sArrow
  · have E := A true (by simp [h])
    generalize decide (s = sArrow) = z at *
    subst h
    unfold sArrow at *
    clear A
    go_enter Tryz.func86, Tryz.ntmps86
    go_wp2
    go_ret
    exact E.out _ BA.out
  · have E := A false (by simpa using h)
    have t1 := str_ne h
    rw [tl_arrow] at t1
    have t2 := str_ne' h
    rw [tl_arrow] at t2
    generalize decide (s = sArrow) = z at *
    clear A h
    go_enter Tryz.func86, Tryz.ntmps86
    go_wp2
    go_ret
    exact E.out _ BA.out
theorem enc2_any (m : Nd) (w : World) : Calls Tryz.prog 87 #[m.val] w fun e w' => e = .returned (.bool (decide (0 < m.kids))) ∧ Below w.heap.size w w' := by
  obtain ⟨k, s, nm, c⟩ := m
  have BA : Hid (Below w.heap.size w (w.alloc (.cells #[.int .i64 k, .string s, .int .i64 nm, .int .i64 c] 58))) := Lib.hid ((Below.refl _ _).alloc (Nat.le_refl _) _)
  unfold Nd.val
  show Calls Tryz.prog 87 #[.agg #[.int .i64 k, .string s, .int .i64 nm, .int .i64 c]] w fun e w' => e = .returned (.bool (decide (0 < c))) ∧ Below w.heap.size w w'
  cases hz : decide (0 < c) with
  | true =>
    go_enter Tryz.func87, Tryz.ntmps87
    go_wp2
    go_ret
    exact ⟨rfl, BA.out⟩
  | false =>
    go_enter Tryz.func87, Tryz.ntmps87
    go_wp2
    go_ret
    exact ⟨rfl, BA.out⟩
def WPost (W : World) (b next : Nat) (l : List UInt8) (e : Ending) (w' : World) : Prop := e = .returned (.int .i64 (next : Int)) ∧ TS W b l w'
/-- That a tree's text is written as it should. -/
def GoodW (W : World) (b : Nat) (tv : Value) (ns : List Nd) (n : Nd) (k : F) : Prop :=
  ∀ (pre post : List Nd) (l : List UInt8) (w : World), ns = pre ++ (n :: (k.flat ++ post)) → l.length + 100000020 * (1 + k.sz) ≤ 140737488355328 → TS W b l w →
    Calls Tryz.prog 43 #[.pointer (some ⟨b, 0, none⟩), tv, .int .i64 (pre.length : Int)] w (WPost W b (pre.length + 1 + k.sz) (l ++ shN n (shF k)))
def AllGoodW (W : World) (b : Nat) (tv : Value) (ns : List Nd) : F → Prop
  | .nil => True
  | .cons n k r => GoodW W b tv ns n k ∧ AllGoodW W b tv ns r
theorem shN_one (n : Nd) (k : F) (h : okT (.cons n k .nil)) : (shN n (shF k)).length + 3 ≤ 100000020 * (1 + k.sz) := by
  have := shF_len _ h
  simp only [shF, F.sz] at this
  rw [shL_cons] at this
  simp only [shL, List.map_nil, List.sum_nil] at this
  omega
set_option maxHeartbeats 2000000 in
/-- A part, in brackets or not. -/
theorem part_good (W : World) (b : Nat) (tv : Value) (ns : List Nd) (n : Nd) (k : F) (g : Nat) (y : Bool) (hg : Hid (∀ vs w, (callFunc g vs).run Tryz.prog w = .ok (.enter g vs) w)) (hns : NodesAt W tv ns) (hn4 : ns.length ≤ 4000) (hk : Hid (GoodW W b tv ns n k)) (ht : okT (.cons n k .nil))
    (hf : Hid (∀ w, Calls Tryz.prog g #[n.val] w fun e w' => e = .returned (.bool y) ∧ Below w.heap.size w w')) (pre post : List Nd) (l : List UInt8) (w : World) (he : ns = pre ++ (n :: (k.flat ++ post))) (hl : l.length + 100000020 * (1 + k.sz) + 2 ≤ 140737488355328) (hT : TS W b l w) :
    Calls Tryz.prog 85 #[.pointer (some ⟨b, 0, none⟩), tv, .int .i64 (pre.length : Int), .func (.func g) #[] #[]] w (WPost W b (pre.length + 1 + k.sz) (l ++ brk y (shN n (shF k)))) := by
  have hlen : pre.length < ns.length := by rw [he]; simp
  have hnode : ns.getD pre.length default = n := by rw [he]; simp [List.getD_eq_getElem?_getD]
  obtain ⟨_, q, c, rfl, _, _, g4⟩ := hns
  obtain ⟨bb, off, rfl, hb, hc⟩ := g4 (by omega)
  obtain ⟨c0, c1, c2, c3⟩ := CellsIn.node (hc.kept (hT.bel.block bb hb)) pre.length hlen
  rw [hnode] at c0 c1 c2 c3
  have LEN := Lib.hid (shN_one n k ht)
  have HT := Lib.hid hT
  have HE := Lib.hid he
  have HL := Lib.hid hl
  have hi9 : ns.length ≤ 4000 := hn4
  obtain ⟨I, hI⟩ : ∃ I, I = pre.length := ⟨_, rfl⟩
  obtain ⟨M, hM⟩ : ∃ M, M = ns.length := ⟨_, rfl⟩
  have CALL : Hid (∀ (l' : List UInt8) (w' : World), l'.length + 100000020 * (1 + k.sz) ≤ 140737488355328 → TS W b l' w' → Calls Tryz.prog 43 #[.pointer (some ⟨b, 0, none⟩), .slice (some ⟨bb, off, none⟩) M c, .int .i64 (I : Int)] w' (WPost W b (I + 1 + k.sz) (l' ++ shN n (shF k)))) := Lib.hid fun l' w' h1 h2 => by
    rw [hI, hM]; exact hk.out pre post l' w' he h1 h2
  rw [← hI] at c0 c1 c2 c3 hlen ⊢
  rw [← hM] at hlen hi9 ⊢
  obtain ⟨NX, hNX⟩ : ∃ NX, NX = I + 1 + k.sz := ⟨_, rfl⟩
  rw [← hNX] at CALL ⊢
  clear hNX
  have HI := Lib.hid hI
  have HM := Lib.hid hM
  clear hI hM hT he hl hk hc hb g4 hnode hn4 ht
  obtain ⟨nk, nt, nn, nc⟩ := n
  simp only at c0 c1 c2 c3
  have FN := Lib.hid hf.out
  unfold Nd.val at FN
  simp only at FN
  clear hf
  cases y with
  | false =>
    have E : Hid (∀ w', WPost W b NX (l ++ shN ⟨nk, nt, nn, nc⟩ (shF k)) (.returned (.int .i64 (NX : Int))) w' → WPost W b NX (l ++ brk false (shN ⟨nk, nt, nn, nc⟩ (shF k))) (.returned (.int .i64 (NX : Int))) w') := Lib.hid fun _ h => h
    generalize hZ : WPost W b NX (l ++ brk false (shN ⟨nk, nt, nn, nc⟩ (shF k))) = Z at *
    clear hZ
    go_enter Tryz.func85, Tryz.ntmps85
    go_wp2_with ((refine wpList_call_slot (o := ⟨some 14, _, _, _, _, _⟩) rfl 9 _ _ rfl g #[] rfl hg.out (#[.agg #[.int .i64 nk, .string nt, .int .i64 nn, .int .i64 nc]]) (by simp [go_sem]) ?_; refine (FN.out _).mono ?_; rintro e w1 ⟨rfl, b1⟩; refine ⟨_, rfl, ?_⟩; simp only [Act.put, List.setIfInBounds_toArray, List.set_cons_succ, List.set_cons_zero]))
    have H1 := Lib.hid (HT.out.below b1)
    clear b1
    go_wp2_with fail
    refine (CALL.out l w1 (by have := HL.out; omega) H1.out).mono ?_
    rintro e w2 ⟨rfl, h2⟩
    have H2 := Lib.hid (E.out _ ⟨rfl, h2⟩)
    clear h2
    go_wp2
    first | go_ret | skip
    exact H2.out
  | true =>
    have E : Hid (∀ w', TS W b (l ++ [40] ++ shN ⟨nk, nt, nn, nc⟩ (shF k) ++ [41]) w' → WPost W b NX (l ++ brk true (shN ⟨nk, nt, nn, nc⟩ (shF k))) (.returned (.int .i64 (NX : Int))) w') := Lib.hid fun _ h => ⟨rfl, by
      have e : l ++ brk true (shN ⟨nk, nt, nn, nc⟩ (shF k)) = l ++ [40] ++ shN ⟨nk, nt, nn, nc⟩ (shF k) ++ [41] := by simp [brk]
      rw [e]; exact h⟩
    generalize hZ : WPost W b NX (l ++ brk true (shN ⟨nk, nt, nn, nc⟩ (shF k))) = Z at *
    clear hZ
    go_enter Tryz.func85, Tryz.ntmps85
    go_wp2_with ((refine wpList_call_slot (o := ⟨some 14, _, _, _, _, _⟩) rfl 9 _ _ rfl g #[] rfl hg.out (#[.agg #[.int .i64 nk, .string nt, .int .i64 nn, .int .i64 nc]]) (by simp [go_sem]) ?_; refine (FN.out _).mono ?_; rintro e w1 ⟨rfl, b1⟩; refine ⟨_, rfl, ?_⟩; simp only [Act.put, List.setIfInBounds_toArray, List.set_cons_succ, List.set_cons_zero]))
    have H1 := Lib.hid (HT.out.below b1)
    clear b1
    have W1 := Lib.hid (wr_any W b l ⟨#[40]⟩ w1 H1.out (by have := HL.out; show _ + 1 ≤ _; omega))
    go_wp2_with fail
    refine W1.out.mono ?_
    rintro e w2 ⟨rfl, h2, _⟩
    have H2 := Lib.hid h2
    clear h2 W1 H1
    go_wp2_with fail
    refine (CALL.out _ w2 (by have := HL.out; show (l ++ [40]).length + _ ≤ _; simp; omega) H2.out).mono ?_
    rintro e w3 ⟨rfl, h3⟩
    have W3 := Lib.hid (wr_any W b _ ⟨#[41]⟩ w3 h3 (by have := HL.out; have := LEN.out; show (l ++ [40] ++ _).length + 1 ≤ _; simp at *; omega))
    clear h3 H2 CALL
    go_wp2_with fail
    refine W3.out.mono ?_
    rintro e w4 ⟨rfl, h4, _⟩
    have H4 := Lib.hid (E.out _ h4)
    clear h4 W3
    go_wp2
    first | go_ret | skip
    exact H4.out
end Go.Proofs.YtncifeeinogcnaaGreatDoor
/- Show: the contract of write. -/
set_option maxRecDepth 100000
namespace Go.Proofs.YtncifeeinogcnaaGreatDoor
open Go.Shelf Go.RowKit Go.Lib Go.Sort Go.Proofs.TreeMath

/-- The library's table of powers, in whatever world comes after. -/
def TabW (W : World) : Prop := ∀ w', Below W.heap.size W w' → Lib.TabIs Tryz.prog w' "internal/strconv.uint64pow10" .u64 Lib.pow10Tab
/-- How things stand between two kids. -/
structure WL (W : World) (b : Nat) (tv : Value) (ns post : List Nd) (txt : List UInt8) (K next : Nat) (j pos : Nat) (g : F) (wr : World) : Prop where
  at_ : ∃ pre' : List Nd, pos = pre'.length ∧ ns = pre' ++ (g.flat ++ post)
  cnt : j + g.cnt = K
  good : AllGoodW W b tv ns g
  ok : okT g
  txt : ∃ l' : List UInt8, TS W b l' wr ∧ l' ++ (shF g).flatMap (fun a => 32 :: brk (decide (0 < a.1.kids)) a.2) = txt ∧ l'.length + 100000020 * g.sz + 10 ≤ 140737488355328
  next : pos + g.sz = next
set_option maxHeartbeats 4000000 in
theorem write_good (W : World) (b : Nat) (tv : Value) (ns : List Nd) (n : Nd) (k : F) (hns : NodesAt W tv ns) (hn4 : ns.length ≤ 4000) (hk : AllGoodW W b tv ns k) (ht : okT (.cons n k .nil)) (htab : TabW W) : GoodW W b tv ns n k := by
  intro pre post l w he hl hT
  have hlen : pre.length < ns.length := by rw [he]; simp
  have hnode : ns.getD pre.length default = n := by rw [he]; simp [List.getD_eq_getElem?_getD]
  have hnx : pre.length + 1 + k.sz ≤ 4000 := by
    have : ns.length = pre.length + (1 + (k.flat.length + post.length)) := by rw [he]; simp; omega
    rw [F.flat_length] at this; omega
  have hns' := hns
  obtain ⟨_, q, c, rfl, _, _, g4⟩ := hns'
  obtain ⟨bb, off, rfl, hb, hc⟩ := g4 (by omega)
  obtain ⟨c0, c1, c2, c3⟩ := CellsIn.node (hc.kept (hT.bel.block bb hb)) pre.length hlen
  rw [hnode] at c0 c1 c2 c3
  obtain ⟨t1, t2, t3, t4, t5, t6, _⟩ := ht
  have hbw : b < w.heap.size := bld_lt hT.bld
  have HT := Lib.hid hT
  have HL := Lib.hid hl
  have HNS := Lib.hid hns
  have H4 := Lib.hid hn4
  have HE := Lib.hid he
  have HK := Lib.hid hk
  have HTAB := Lib.hid htab
  have T6 := Lib.hid t6
  obtain ⟨nk, nt, nn, nc⟩ := n
  simp only at c0 c1 c2 c3 t1 t2 t3 t4 t5
  have BA : Hid (Below w.heap.size w (w.alloc (.cells #[.int .i64 nk, .string nt, .int .i64 nn, .int .i64 nc] 58))) := Lib.hid ((Below.refl _ _).alloc (Nat.le_refl _) _)
  have TA : Hid (TS W b l (w.alloc (.cells #[.int .i64 nk, .string nt, .int .i64 nn, .int .i64 nc] 58))) := Lib.hid (hT.below BA.out)
  have BX : Hid ((w.alloc (.cells #[.int .i64 nk, .string nt, .int .i64 nn, .int .i64 nc] 58)).heap[w.heap.size]? = some (.cells #[.int .i64 nk, .string nt, .int .i64 nn, .int .i64 nc] 58 (0, 0))) := Lib.hid (heap_alloc_new w _)
  obtain ⟨I, hI⟩ : ∃ I, I = pre.length := ⟨_, rfl⟩
  obtain ⟨M, hM⟩ : ∃ M, M = ns.length := ⟨_, rfl⟩
  obtain ⟨NX, hNX⟩ : ∃ NX, NX = pre.length + 1 + k.sz := ⟨_, rfl⟩
  rw [← hNX] at hnx ⊢
  rw [← hI] at c0 c1 c2 c3 hlen hNX ⊢
  rw [← hM] at hlen hn4 ⊢
  have HI := Lib.hid hI
  have HM := Lib.hid hM
  have HNX := Lib.hid hNX
  clear hI hM hNX hT he hl hk hc hb g4 hnode htab t6 hns
  rcases t1 with ⟨hk31, hn0, hn1⟩ | hk32
  · obtain rfl := t5 hk31
    subst hk31
    have hNX1 : NX = I + 1 := by rw [HNX.out]; rfl
    subst hNX1
    have E : Hid (∀ w', TS W b (l ++ 39 :: Lib.itoa nn) w' → WPost W b (I + 1) (l ++ shN ⟨31, nt, nn, nc⟩ (shF .nil)) (.returned (.int .i64 ((I : Int) + 1))) w') := Lib.hid fun _ h => ⟨by rw [Int.natCast_add]; rfl, h⟩
    generalize hZ : WPost W b (I + 1) (l ++ shN ⟨31, nt, nn, nc⟩ (shF .nil)) = Z at *
    have LN := Lib.hid (itoa_len hn0 hn1)
    have FM := Lib.hid (fun w' hw' => format_any nn (by omega) (by omega) w' (HTAB.out w' hw'))
    clear hZ t2 t3 t4 t5 hn0 hn1 BX HK
    go_enter Tryz.func43, Tryz.ntmps43
    obtain ⟨S, hS⟩ : ∃ S : ByteArray, S = ⟨(Lib.itoa nn).toArray⟩ := ⟨_, rfl⟩
    have hSz : S.size ≤ 7 := by rw [hS]; show (Lib.itoa nn).toArray.size ≤ 7; simpa using LN.out
    have hSc : ¬ (9223372036854775807 : Int) < 1 + (S.size : Int) := by omega
    rw [← hS] at FM
    have HS := Lib.hid hS
    clear hS
    go_wp2_with fail
    refine (FM.out _ TA.out.bel).mono ?_
    rintro e w1 ⟨rfl, kk0, os, rfl⟩
    have H1 : Hid (TS W b l (Sort.grow ((w.alloc (.cells #[.int .i64 31, .string nt, .int .i64 nn, .int .i64 nc] 58)).drewN kk0) os)) := Lib.hid (TA.out.below (below_grown _ _ _))
    generalize (Sort.grow ((w.alloc (.cells #[.int .i64 31, .string nt, .int .i64 nn, .int .i64 nc] 58)).drewN kk0) os) = w1 at *
    have W1 := Lib.hid (wr_any W b l (⟨#[39]⟩ ++ S) w1 H1.out (by have := HL.out; rw [ByteArray.size_append]; show _ + (1 + S.size) ≤ _; omega))
    rw [show l ++ ((⟨#[39]⟩ : ByteArray) ++ S).data.toList = l ++ 39 :: Lib.itoa nn by rw [HS.out]; simp] at W1
    clear FM H1
    go_wp2_with fail
    refine W1.out.mono ?_
    rintro e w2 ⟨rfl, h2, _⟩
    have H2 := Lib.hid (E.out _ h2)
    clear h2 W1
    go_wp2
    first | go_ret | skip
    exact H2.out
  · subst hk32
    by_cases ha : nt = sArrow
    · have hcnt := t3 ha rfl
      subst ha
      clear t5 BX
      obtain ⟨a, ka, k2, rfl⟩ : ∃ a ka k2, k = .cons a ka k2 := by
        cases k with
        | nil => simp [F.cnt] at hcnt
        | cons a ka k2 => exact ⟨a, ka, k2, rfl⟩
      obtain ⟨c, kc, k3, rfl⟩ : ∃ c kc k3, k2 = .cons c kc k3 := by
        cases k2 with
        | nil => simp [F.cnt] at hcnt
        | cons a ka k2 => exact ⟨a, ka, k2, rfl⟩
      obtain rfl : k3 = .nil := by
        cases k3 with
        | nil => rfl
        | cons _ _ _ => simp [F.cnt] at hcnt
      have oa : okT (.cons a ka .nil) := by obtain ⟨a1, a2, a3, a4, a5, a6, _⟩ := T6.out; exact ⟨a1, a2, a3, a4, a5, a6, trivial⟩
      have oc : okT (.cons c kc .nil) := by obtain ⟨_, _, _, _, _, _, h⟩ := T6.out; exact h
      have P1 := Lib.hid (fun w' (hw : TS W b l w') => part_good W b _ ns a ka 86 (decide (a.text = sArrow)) (Lib.hid fun vs w => enters_of Tryz.func86 (by kernel_rfl) rfl vs w) HNS.out H4.out (Lib.hid HK.out.1) oa (Lib.hid fun w => enc1_any a w) (pre ++ [⟨32, sArrow, nn, nc⟩]) (c :: (kc.flat ++ post)) l w' (by rw [HE.out]; simp [F.flat]) (by
        have := HL.out; simp only [F.sz] at this; omega) hw)
      have LA := Lib.hid (shN_one a ka oa)
      have BL := Lib.hid (brk_len (decide (a.text = sArrow)) (shN a (shF ka)))
      have P2 := Lib.hid (fun (l' : List UInt8) w' (h1 : l'.length + 100000020 * (1 + kc.sz) ≤ 140737488355328) (hw : TS W b l' w') => HK.out.2.1 (pre ++ (⟨32, sArrow, nn, nc⟩ :: a :: ka.flat)) post l' w' (by rw [HE.out]; simp [F.flat]) h1 hw)
      rw [show (pre ++ [(⟨32, sArrow, nn, nc⟩ : Nd)]).length = I + 1 by rw [HI.out]; simp] at P1
      rw [show (pre ++ ((⟨32, sArrow, nn, nc⟩ : Nd) :: a :: ka.flat)).length = I + 1 + 1 + ka.sz by rw [HI.out]; simp [F.flat_length]; omega] at P2
      obtain ⟨N2, hN2⟩ : ∃ N2, N2 = I + 1 + 1 + ka.sz := ⟨_, rfl⟩
      rw [← hN2] at P1 P2
      rw [show N2 + 1 + kc.sz = NX by rw [hN2, HNX.out]; simp only [F.sz]; omega] at P2
      rw [← HM.out] at P1 P2
      have E : Hid (∀ w', TS W b (l ++ brk (decide (a.text = sArrow)) (shN a (shF ka)) ++ [32, 45, 62, 32] ++ shN c (shF kc)) w' → WPost W b NX (l ++ shN ⟨32, sArrow, nn, nc⟩ (shF (.cons a ka (.cons c kc .nil)))) (.returned (.int .i64 (NX : Int))) w') := Lib.hid fun _ h => ⟨rfl, by
        have e : l ++ shN ⟨32, sArrow, nn, nc⟩ (shF (.cons a ka (.cons c kc .nil))) = l ++ brk (decide (a.text = sArrow)) (shN a (shF ka)) ++ [32, 45, 62, 32] ++ shN c (shF kc) := by simp [shN, shF]
        rw [e]; exact h⟩
      generalize hZ : WPost W b NX (l ++ shN ⟨32, sArrow, nn, nc⟩ (shF (.cons a ka (.cons c kc .nil)))) = Z at *
      have HSZ := Lib.hid (show l.length + 100000020 * (1 + (1 + ka.sz + (1 + kc.sz))) ≤ 140737488355328 by have := HL.out; simp only [F.sz] at this; omega)
      clear hZ t2 t3 t4 hcnt HK T6 oa oc HNX hN2 HL HE
      unfold sArrow at c1 TA BA
      have hi1 : decide ((I : Int) + 1 ≤ 9223372036854775807) = true := by simp; omega
      go_enter Tryz.func43, Tryz.ntmps43
      go_wp2_with fail
      refine (P1.out _ TA.out).mono ?_
      rintro e w1 ⟨rfl, h1⟩
      have W1 := Lib.hid (wr_any W b _ ⟨#[32, 45, 62, 32]⟩ w1 h1 (by have := HSZ.out; have := LA.out; have := BL.out; rw [List.length_append]; show _ + 4 ≤ _; omega))
      clear h1 P1
      go_wp2_with fail
      refine W1.out.mono ?_
      rintro e w2 ⟨rfl, h2, _⟩
      have P3 := Lib.hid (P2.out _ w2 (by have := HSZ.out; have := LA.out; have := BL.out; rw [List.length_append, List.length_append]; show _ + 4 + _ ≤ _; omega) h2)
      clear h2 W1 P2
      go_wp2_with fail
      refine P3.out.mono ?_
      rintro e w3 ⟨rfl, h3⟩
      have H3 := Lib.hid (E.out _ h3)
      clear h3 P3
      go_wp2
      first | go_ret | skip
      exact H3.out
    · have t7 := str_ne ha
      rw [tl_arrow] at t7
      have t8 := str_ne' ha
      rw [tl_arrow] at t8
      clear t3 t5
      have E : Hid (∀ w', TS W b (l ++ shN ⟨32, nt, nn, nc⟩ (shF k)) w' → WPost W b NX (l ++ shN ⟨32, nt, nn, nc⟩ (shF k)) (.returned (.int .i64 (NX : Int))) w') := Lib.hid fun _ h => ⟨rfl, h⟩
      obtain ⟨full, hfull⟩ : ∃ full, full = l ++ shN ⟨32, nt, nn, nc⟩ (shF k) := ⟨_, rfl⟩
      have HF : Hid (full = l ++ nt.data.toList ++ (shF k).flatMap (fun a => 32 :: brk (decide (0 < a.1.kids)) a.2)) := Lib.hid (by rw [hfull]; unfold shN; rw [if_neg (show ¬ ((32 : Int) = 31) by decide), if_neg ha, List.append_assoc])
      rw [← hfull] at E
      rw [← hfull]
      generalize hZ : WPost W b NX full = Z at *
      obtain ⟨K, hK⟩ : ∃ K, K = k.cnt := ⟨_, rfl⟩
      have hKc : nc = (K : Int) := by rw [hK]; exact t4
      subst hKc
      have HKK := Lib.hid hK
      have hK4 : K ≤ 4000 := by rw [hK]; have := F.cnt_le k; have := HNX.out; omega
      have T2 := Lib.hid t2
      have W0 := Lib.hid (wr_any W b l nt _ TA.out (by have := HL.out; omega))
      have hbe : b ≠ w.heap.size := by omega
      have HBE := Lib.hid hbe
      clear hZ t2 t4 hfull ha hK hbe
      go_enter Tryz.func43, Tryz.ntmps43
      go_wp2_with fail
      refine W0.out.mono ?_
      rintro e w1 ⟨rfl, h1, o1⟩
      have x1 := o1 w.heap.size _ BX.out (fun e => HBE.out (Option.some.inj e).symm) (by simp)
      have y3 := Lib.cell_of_heap x1 3
      simp only [List.getElem?_toArray, List.getElem?_cons_succ, List.getElem?_cons_zero] at y3
      have h5 : nt.data.toList.length ≤ 100000000 := by rw [Array.length_toList]; exact T2.out
      have S0 : Hid (WL W b (.slice (some ⟨bb, off, none⟩) M c) ns post full K NX 0 (I + 1) k w1) := Lib.hid ⟨⟨pre ++ [⟨32, nt, nn, (K : Int)⟩], by rw [HI.out]; simp, by rw [HE.out]; simp⟩, by rw [HKK.out]; omega, by rw [HM.out]; exact HK.out, T6.out, ⟨_, h1, by rw [HF.out], by have := HL.out; rw [List.length_append]; omega⟩, by rw [HNX.out]⟩
      clear h5
      clear h1 o1 x1 W0 TA BX BA HL HE HK T6 HF HNX HKK
      go_wp2
      go_loopw [2, 45] (fun s2 s45 wr => ∃ (j pos : Nat) (g : F), s45 = .int .i64 j ∧ s2 = .int .i64 pos ∧ j ≤ K ∧ pos ≤ 4000 ∧ Hid (WL W b (.slice (some ⟨bb, off, none⟩) M c) ns post full K NX j pos g wr)) (fun _ s45 _ => K - (intOf s45).toNat)
      case atStart => exact ⟨0, I + 1, k, rfl, by go_num, Nat.zero_le _, by omega, S0⟩
      case round =>
        obtain ⟨j, pos, g, rfl, rfl, hjK, hp4, HW⟩ := hrel
        clear S0 y3
        cases g with
        | nil =>
          have hjk : j = K := by have := HW.out.cnt; simpa [F.cnt] using this
          have hpn : pos = NX := by have := HW.out.next; simpa [F.sz] using this
          subst hjk hpn
          have t0 : decide ((j : Int) < (j : Int)) = false := by simp
          obtain ⟨l', g1, g2, _⟩ := HW.out.txt
          have g2' : l' = full := by simpa [shF] using g2
          subst g2'
          have H2 := Lib.hid (E.out _ g1)
          clear g1 g2 HW
          go_wp2
          first | go_ret | skip
          exact H2.out
        | cons a ka r =>
          have hlt : j < K := by have := HW.out.cnt; simp only [F.cnt] at this; omega
          have t0 : decide ((j : Int) < (K : Int)) = true := by simpa using hlt
          obtain ⟨pre', hp1, hp2⟩ := HW.out.at_
          obtain ⟨l', g1, g2, g3⟩ := HW.out.txt
          obtain ⟨o1, o2, o3, o4, o5, o6, o7⟩ := HW.out.ok
          have oa : okT (.cons a ka .nil) := ⟨o1, o2, o3, o4, o5, o6, trivial⟩
          have LA := Lib.hid (shN_one a ka oa)
          have BL := Lib.hid (brk_len (decide (0 < a.kids)) (shN a (shF ka)))
          have W1 := Lib.hid (wr_any W b l' ⟨#[32]⟩ wr g1 (by simp only [F.sz] at g3; show _ + 1 ≤ _; omega))
          have P1 := Lib.hid (fun w' (hw : TS W b (l' ++ [32]) w') => part_good W b _ ns a ka 87 (decide (0 < a.kids)) (Lib.hid fun vs w => enters_of Tryz.func87 (by kernel_rfl) rfl vs w) HNS.out H4.out (Lib.hid (by have := HW.out.good.1; rw [HM.out] at this; exact this)) oa (Lib.hid fun w => enc2_any a w) pre' (r.flat ++ post) (l' ++ [32]) w' (by rw [hp2]; simp [F.flat]) (by simp only [F.sz] at g3; simp; omega) hw)
          rw [← hp1, ← HM.out] at P1
          have hp5 : pos + 1 + ka.sz ≤ NX := by have := HW.out.next; simp only [F.sz] at this; omega
          obtain ⟨N2, hN2⟩ : ∃ N2, N2 = pos + 1 + ka.sz := ⟨_, rfl⟩
          rw [← hN2] at P1 hp5
          have NEXT : Hid (∀ w', TS W b (l' ++ [32] ++ brk (decide (0 < a.kids)) (shN a (shF ka))) w' → WL W b (.slice (some ⟨bb, off, none⟩) M c) ns post full K NX (j + 1) N2 r w') := Lib.hid fun w' hw => ⟨⟨pre' ++ (a :: ka.flat), by rw [hN2, hp1]; simp [F.flat_length]; omega, by rw [hp2]; simp [F.flat]⟩, by have := HW.out.cnt; simp only [F.cnt] at this; omega, HW.out.good.2, o7, ⟨_, hw, by rw [← g2]; simp [shF], by
            have := LA.out; have := BL.out
            simp only [F.sz] at g3
            simp only [List.length_append, List.length_singleton]
            omega⟩, by have := HW.out.next; simp only [F.sz] at this; omega⟩
          clear hp1 hp2 g1 g2 g3 o1 o2 o3 o4 o5 o6 o7 oa LA BL HW hN2 E
          go_wp2_with fail
          refine W1.out.mono ?_
          rintro e w2 ⟨rfl, h2, _⟩
          have P2 := Lib.hid (P1.out w2 h2)
          clear h2 P1 W1
          go_wp2_with fail
          refine P2.out.mono ?_
          rintro e w3 ⟨rfl, h3⟩
          have N3 := Lib.hid (NEXT.out _ h3)
          clear h3 P2 NEXT
          go_wp2
          go_roundw
          case rel => exact ⟨j + 1, N2, r, by go_num, rfl, by omega, by omega, N3⟩
          case measure => simp [intOf]; omega
theorem all_good (W : World) (b : Nat) (tv : Value) (ns : List Nd) (hns : NodesAt W tv ns) (hn4 : ns.length ≤ 4000) (htab : TabW W) (f : F) : okT f → AllGoodW W b tv ns f := by
  induction f with
  | nil => intro _; trivial
  | cons n k r hk hr =>
    intro h
    obtain ⟨a1, a2, a3, a4, a5, a6, a7⟩ := h
    exact ⟨write_good W b tv ns n k hns hn4 (hk a6) ⟨a1, a2, a3, a4, a5, a6, trivial⟩ htab, hr a7⟩
end Go.Proofs.YtncifeeinogcnaaGreatDoor
