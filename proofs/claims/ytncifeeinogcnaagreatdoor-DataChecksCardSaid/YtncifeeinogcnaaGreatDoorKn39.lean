/- Texts of this seat, one behind the other: TxA, TxB, TxC. -/
import Derived.Test.YtncifeeinogcnaaGreatDoorKn08
import Derived.Test.YtncifeeinogcnaaGreatDoorKn01
import Derived.Lib.ItoaNum
import Derived.Shelf.Strings.BuilderK
import Derived.Shelf.Strconv.Itoa4
import Derived.Lib.Hide
import Derived.Deep.CutBlock
/- The text of a type, as bytes: plain mathematics. -/
set_option maxRecDepth 100000
namespace Go.Proofs.YtncifeeinogcnaaGreatDoor
open Go.Proofs.TreeMath

/-- In brackets, or not. -/
def brk (b : Bool) (s : List UInt8) : List UInt8 := if b = true then 40 :: (s ++ [41]) else s
/-- A node's text, of its kids' texts. -/
def shN (n : Nd) (ks : List (Nd × List UInt8)) : List UInt8 :=
  if n.kind = 31 then 39 :: Lib.itoa n.num
  else if n.text = sArrow then
    (match ks with
     | [a, b] => brk (decide (a.1.text = sArrow)) a.2 ++ [32, 45, 62, 32] ++ b.2
     | _ => [])
  else n.text.data.toList ++ ks.flatMap (fun a => 32 :: brk (decide (0 < a.1.kids)) a.2)
def shF : F → List (Nd × List UInt8)
  | .nil => []
  | .cons n k r => (n, shN n (shF k)) :: shF r
theorem brk_len (b : Bool) (s : List UInt8) : (brk b s).length ≤ s.length + 2 := by
  unfold brk; split <;> simp
theorem decDigits_len : ∀ (f u : Nat), u < 10 ^ (f + 1) → (Lib.decDigits u).length ≤ f + 1
  | 0, u, h => by rw [Lib.decDigits, dif_pos (by simpa using h)]; simp
  | f + 1, u, h => by
    rw [Lib.decDigits]
    split
    · simp
    · have := decDigits_len f (u / 10) (by rw [Nat.div_lt_iff_lt_mul (by decide)]; rw [Nat.pow_succ] at h; exact h)
      simp; omega
/-- The nodes of types: their numbers are few, their texts short. -/
def okT : F → Prop
  | .nil => True
  | .cons n k r => ((n.kind = 31 ∧ 0 ≤ n.num ∧ n.num ≤ 1048576) ∨ n.kind = 32) ∧ n.text.size ≤ 100000000 ∧ (n.text = sArrow → n.kind = 32 → k.cnt = 2) ∧ n.kids = k.cnt ∧ (n.kind = 31 → k = .nil) ∧ okT k ∧ okT r
theorem itoa_len {n : Int} (h0 : 0 ≤ n) (h1 : n ≤ 1048576) : (Lib.itoa n).length ≤ 7 := by
  unfold Lib.itoa
  rw [if_neg (by omega)]
  exact decDigits_len 6 _ (by omega)
/-- How long all texts of a forest are, with what stands around each. -/
def shL (l : List (Nd × List UInt8)) : Nat := (l.map fun a => a.2.length + 3).sum
theorem shL_cons (a : Nd × List UInt8) (l : List (Nd × List UInt8)) : shL (a :: l) = a.2.length + 3 + shL l := by simp [shL]
theorem flat_len (l : List (Nd × List UInt8)) : (l.flatMap (fun a => 32 :: brk (decide (0 < a.1.kids)) a.2)).length ≤ shL l := by
  induction l with
  | nil => simp [shL]
  | cons a l ih =>
    rw [List.flatMap_cons, List.length_append, shL_cons]
    have := brk_len (decide (0 < a.1.kids)) a.2
    simp only [List.length_cons]
    omega
theorem shN_len (n : Nd) (ks : List (Nd × List UInt8)) (hn : n.kind = 31 → 0 ≤ n.num ∧ n.num ≤ 1048576) (ht : n.text.size ≤ 100000000) : (shN n ks).length ≤ 100000008 + shL ks := by
  unfold shN
  split
  · rename_i h
    have := itoa_len (hn h).1 (hn h).2
    simp; omega
  · split
    · split
      · rename_i a b
        have := brk_len (decide (a.1.text = sArrow)) a.2
        simp [shL]; omega
      · simp
    · have := flat_len ks
      rw [List.length_append]
      have h2 : n.text.data.toList.length ≤ 100000000 := by rw [Array.length_toList]; exact ht
      omega
theorem shF_len (f : F) (h : okT f) : shL (shF f) ≤ 100000020 * f.sz := by
  induction f with
  | nil => simp [shF, shL]
  | cons n k r hk hr =>
    obtain ⟨h1, h2, _, _, _, h5, h6⟩ := h
    have a := hk h5
    have b := hr h6
    have c := shN_len n (shF k) (fun e => by
      rcases h1 with h | h
      · exact h.2
      · rw [h] at e; exact absurd e (by decide)) h2
    simp only [shF, F.sz]
    rw [shL_cons]
    show (shN n (shF k)).length + 3 + _ ≤ _
    omega
theorem okT_of (f : F) : f.ok → (∀ n ∈ f.flat, rightN n = true) → (∀ n ∈ f.flat, n.text.size ≤ 100000000) → okT f := by
  induction f with
  | nil => intros; trivial
  | cons n k r hk hr =>
    rintro ⟨h1, h2, h3⟩ hR hS
    have hn := hR n (by simp [F.flat])
    have nil_of : ∀ k : F, k.cnt = 0 → k = .nil := fun k h => by
      cases k with
      | nil => rfl
      | cons _ _ _ => simp [F.cnt] at h
    refine ⟨?_, hS n (by simp [F.flat]), ?_, h1, ?_, hk h2 (fun x hx => hR x (by simp [F.flat, hx])) (fun x hx => hS x (by simp [F.flat, hx])), hr h3 (fun x hx => hR x (by simp [F.flat, hx])) (fun x hx => hS x (by simp [F.flat, hx]))⟩
    · unfold rightN at hn
      split at hn
      · rename_i e
        simp only [Bool.and_eq_true, decide_eq_true_eq] at hn
        exact .inl ⟨e, hn.1.1.1, hn.1.1.2⟩
      · split at hn
        · rename_i e; exact .inr e
        · simp at hn
    · intro e1 e2
      unfold rightN at hn
      rw [if_neg (by omega), if_pos e2] at hn
      simp only [Bool.and_eq_true] at hn
      have := hn.2
      unfold conB at this
      rw [if_pos e1, beq_iff_eq] at this
      omega
    · intro e
      unfold rightN at hn
      rw [if_pos e] at hn
      simp only [Bool.and_eq_true, beq_iff_eq] at hn
      exact nil_of k (by have := hn.1.2; omega)
end Go.Proofs.YtncifeeinogcnaaGreatDoor
/- Library functions: strings.Builder, strconv.FormatInt. -/
set_option maxRecDepth 100000
namespace Go.Proofs.YtncifeeinogcnaaGreatDoor
open Go.Shelf Go.RowKit Go.Lib Go.Sort
def bwLays_ren : Go.Shelf.Ren := ⟨fun | 166 => 83 | 240 => 117 | 276 => 132 | 169 => 44 | n => n, fun | 9 => 9 | 3 => 3 | 4 => 4 | 20 => 20 | 0 => 0 | 5 => 5 | 72 => 70 | 70 => 67 | 37 => 68 | 75 => 139 | 127 => 144 | 164 => 178 | 80 => 72 | n => n, fun | n => n⟩
theorem bwLays : Go.Proofs.Lays.n166 Tryz.prog bwLays_ren where
  mixed := by kernel_rfl
  f166 := Tryz.func83.trans (congrArg some (by kernel_rfl))
  f240 := Tryz.func117.trans (congrArg some (by kernel_rfl))
  f276 := Tryz.func132.trans (congrArg some (by kernel_rfl))
  t0 := Tryz.underlying0
  a0 := Tryz.isAgg0
  z0 := Tryz.sizeOf0
  v0 := Tryz.zeroValue0
  t3 := Tryz.underlying3
  a3 := Tryz.isAgg3
  z3 := Tryz.sizeOf3
  v3 := Tryz.zeroValue3
  t4 := Tryz.underlying4
  a4 := Tryz.isAgg4
  z4 := Tryz.sizeOf4
  v4 := Tryz.zeroValue4
  t9 := Tryz.underlying9
  a9 := Tryz.isAgg9
  z9 := Tryz.sizeOf9
  v9 := Tryz.zeroValue9
  t20 := Tryz.underlying20
  a20 := Tryz.isAgg20
  z20 := Tryz.sizeOf20
  v20 := Tryz.zeroValue20
  t37 := Tryz.underlying68
  a37 := Tryz.isAgg68
  z37 := Tryz.sizeOf68
  v37 := Tryz.zeroValue68
  t70 := Tryz.underlying67
  a70 := Tryz.isAgg67
  z70 := Tryz.sizeOf67
  v70 := Tryz.zeroValue67
  t72 := Tryz.underlying70
  a72 := Tryz.isAgg70
  z72 := Tryz.sizeOf70
  v72 := Tryz.zeroValue70
  t75 := Tryz.underlying139
  a75 := Tryz.isAgg139
  z75 := Tryz.sizeOf139
  v75 := Tryz.zeroValue139
  t164 := Tryz.underlying178
  a164 := Tryz.isAgg178
  z164 := Tryz.sizeOf178
  v164 := Tryz.zeroValue178
theorem bwExtra : Builder.Extra Tryz.prog bwLays_ren where
  sizeBuilder := by kernel_rfl
  liesBuilder := by kernel_rfl
  t5 := Tryz.underlying5
  a5 := Tryz.isAgg5
  z5 := Tryz.sizeOf5
  v5 := Tryz.zeroValue5
  infoByte := by kernel_rfl
  cellsByte := by kernel_rfl
  sizeByte := by kernel_rfl
  neB5 := by decide
theorem bsLays : Go.Proofs.Lays.n169 Tryz.prog bwLays_ren where
  mixed := by kernel_rfl
  f169 := Tryz.func44.trans (congrArg some (by kernel_rfl))
  t0 := Tryz.underlying0
  a0 := Tryz.isAgg0
  z0 := Tryz.sizeOf0
  v0 := Tryz.zeroValue0
  t3 := Tryz.underlying3
  a3 := Tryz.isAgg3
  z3 := Tryz.sizeOf3
  v3 := Tryz.zeroValue3
  t9 := Tryz.underlying9
  a9 := Tryz.isAgg9
  z9 := Tryz.sizeOf9
  v9 := Tryz.zeroValue9
  t37 := Tryz.underlying68
  a37 := Tryz.isAgg68
  z37 := Tryz.sizeOf68
  v37 := Tryz.zeroValue68
  t70 := Tryz.underlying67
  a70 := Tryz.isAgg67
  z70 := Tryz.sizeOf67
  v70 := Tryz.zeroValue67
  t72 := Tryz.underlying70
  a72 := Tryz.isAgg70
  z72 := Tryz.sizeOf70
  v72 := Tryz.zeroValue70
  t127 := Tryz.underlying144
  a127 := Tryz.isAgg144
  z127 := Tryz.sizeOf144
  v127 := Tryz.zeroValue144
def fmtLays_ren : Go.Shelf.Ren := ⟨fun | 173 => 84 | 246 => 118 | 283 => 133 | 284 => 134 | 285 => 135 | 286 => 136 | 129 => 154 | 317 => 156 | 318 => 157 | 319 => 158 | 320 => 159 | 337 => 172 | 338 => 173 | n => n, fun | 2 => 2 | 3 => 3 | 9 => 9 | 4 => 4 | 171 => 180 | 0 => 0 | 53 => 169 | 37 => 68 | 5 => 5 | 173 => 183 | 212 => 202 | 51 => 198 | 20 => 20 | 213 => 203 | 46 => 174 | 232 => 219 | 233 => 220 | n => n, fun | 17 => 0 | 18 => 1 | 19 => 2 | n => n⟩
theorem fmtLays : Go.Proofs.LaysM.n173 Tryz.prog fmtLays_ren where
  mixed := by kernel_rfl
  f129 := Tryz.func154.trans (congrArg some (by kernel_rfl))
  f173 := Tryz.func84.trans (congrArg some (by kernel_rfl))
  f246 := Tryz.func118.trans (congrArg some (by kernel_rfl))
  f283 := Tryz.func133.trans (congrArg some (by kernel_rfl))
  f284 := Tryz.func134.trans (congrArg some (by kernel_rfl))
  f285 := Tryz.func135.trans (congrArg some (by kernel_rfl))
  f286 := Tryz.func136.trans (congrArg some (by kernel_rfl))
  f317 := Tryz.func156.trans (congrArg some (by kernel_rfl))
  f318 := Tryz.func157.trans (congrArg some (by kernel_rfl))
  f319 := Tryz.func158.trans (congrArg some (by kernel_rfl))
  f320 := Tryz.func159.trans (congrArg some (by kernel_rfl))
  f337 := Tryz.func172.trans (congrArg some (by kernel_rfl))
  f338 := Tryz.func173.trans (congrArg some (by kernel_rfl))
  t0 := Tryz.underlying0
  a0 := Tryz.isAgg0
  z0 := Tryz.sizeOf0
  v0 := Tryz.zeroValue0
  t2 := Tryz.underlying2
  a2 := Tryz.isAgg2
  z2 := Tryz.sizeOf2
  v2 := Tryz.zeroValue2
  t3 := Tryz.underlying3
  a3 := Tryz.isAgg3
  z3 := Tryz.sizeOf3
  v3 := Tryz.zeroValue3
  t4 := Tryz.underlying4
  a4 := Tryz.isAgg4
  z4 := Tryz.sizeOf4
  v4 := Tryz.zeroValue4
  t5 := Tryz.underlying5
  a5 := Tryz.isAgg5
  z5 := Tryz.sizeOf5
  v5 := Tryz.zeroValue5
  t9 := Tryz.underlying9
  a9 := Tryz.isAgg9
  z9 := Tryz.sizeOf9
  v9 := Tryz.zeroValue9
  t20 := Tryz.underlying20
  a20 := Tryz.isAgg20
  z20 := Tryz.sizeOf20
  v20 := Tryz.zeroValue20
  t37 := Tryz.underlying68
  a37 := Tryz.isAgg68
  z37 := Tryz.sizeOf68
  v37 := Tryz.zeroValue68
  t46 := Tryz.underlying174
  a46 := Tryz.isAgg174
  z46 := Tryz.sizeOf174
  v46 := Tryz.zeroValue174
  t51 := Tryz.underlying198
  a51 := Tryz.isAgg198
  z51 := Tryz.sizeOf198
  v51 := Tryz.zeroValue198
  t53 := Tryz.underlying169
  a53 := Tryz.isAgg169
  z53 := Tryz.sizeOf169
  v53 := Tryz.zeroValue169
  t171 := Tryz.underlying180
  a171 := Tryz.isAgg180
  z171 := Tryz.sizeOf180
  v171 := Tryz.zeroValue180
  t173 := Tryz.underlying183
  a173 := Tryz.isAgg183
  z173 := Tryz.sizeOf183
  v173 := Tryz.zeroValue183
  t212 := Tryz.underlying202
  a212 := Tryz.isAgg202
  z212 := Tryz.sizeOf202
  v212 := Tryz.zeroValue202
  t213 := Tryz.underlying203
  a213 := Tryz.isAgg203
  z213 := Tryz.sizeOf203
  t232 := Tryz.underlying219
  a232 := Tryz.isAgg219
  z232 := Tryz.sizeOf219
  v232 := Tryz.zeroValue219
  t233 := Tryz.underlying220
  a233 := Tryz.isAgg220
  z233 := Tryz.sizeOf220
  v233 := Tryz.zeroValue220
  g17 := by kernel_rfl
  g18 := by kernel_rfl
  g19 := by kernel_rfl
  i0 := by kernel_rfl
  i2 := by kernel_rfl
  i3 := by kernel_rfl
  i4 := by kernel_rfl
  i5 := by kernel_rfl
  i9 := by kernel_rfl
  i20 := by kernel_rfl
  i37 := by kernel_rfl
  i46 := by kernel_rfl
  i51 := by kernel_rfl
  i53 := by kernel_rfl
  i171 := by kernel_rfl
  i173 := by kernel_rfl
  i212 := by kernel_rfl
  i232 := by kernel_rfl
  i233 := by kernel_rfl
  m17 := by kernel_rfl
  m18 := by kernel_rfl
  m19 := by kernel_rfl
theorem write_any (B b : Nat) (bs : List Value) (s : ByteArray) (w : World) (h : Lib.IsBuilderF 70 5 B b bs w) (hlen : bs.length + s.size ≤ 140737488355328) (hBw : B ≤ w.heap.size) :
    Calls Tryz.prog 83 #[.pointer (some ⟨b, 0, none⟩), .string s] w fun e w' => e = .returned (.tuple #[.int .i64 s.size, .nilIface]) ∧ (Lib.BuilderAtF 70 5 B b (.pointer (some ⟨b, 0, none⟩)) (bs ++ Lib.strCells s) w' ∧ Below B w w' ∧ Lib.OthersKept 5 (some b) w w') :=
  Any.Builder_WriteString_k bwLays bwExtra B b bs s w h hlen hBw
theorem string_any (B b : Nat) (l : List UInt8) (w : World) (h : Lib.IsBuilderF 70 5 B b (Lib.byteCells l) w) (hBw : B ≤ w.heap.size) :
    Calls Tryz.prog 44 #[.pointer (some ⟨b, 0, none⟩)] w fun e w' => e = .returned (.string ⟨l.toArray⟩) ∧ (Lib.IsBuilderF 70 5 B b (Lib.byteCells l) w' ∧ Below B w w' ∧ Lib.OthersKept 5 (some b) w w') :=
  Any.Builder_String_any_k bsLays bwExtra B b l w h hBw
theorem format_any (n : Int) (h0 : -9223372036854775808 ≤ n) (h1 : n ≤ 9223372036854775807) (w : World) (htab : Lib.TabIs Tryz.prog w "internal/strconv.uint64pow10" .u64 Lib.pow10Tab) :
    Calls Tryz.prog 84 #[.int .i64 n, .int .i64 10] w fun e w' => e = .returned (.string ⟨(Lib.itoa n).toArray⟩) ∧ ∃ k os, w' = Sort.grow (w.drewN k) os := Any.strconv_FormatInt_10 fmtLays n h0 h1 w htab
theorem bld_below {T e : TypeId} {B b : Nat} {bs : List Value} {w w' : World} (h : Lib.IsBuilderF T e B b bs w) (k : Below w.heap.size w w') : Lib.IsBuilderF T e B b bs w' := by
  have key : ∀ p, Lib.BuilderAtF T e B b p bs w → Lib.BuilderAtF T e B b p bs w' := by
    rintro p ⟨h1, v, h2, h3, h4⟩
    refine ⟨h1, v, (k.block _ (Array.getElem?_eq_some_iff.1 h2).1).trans h2, ⟨h3.1, ?_⟩, h4⟩
    rcases h3.2 with h | ⟨g, cap, cur, fz, hv, hb, hg, rest⟩
    · exact .inl h
    · exact .inr ⟨g, cap, cur, fz, hv, hb, (k.block _ (Array.getElem?_eq_some_iff.1 hg).1).trans hg, rest⟩
  exact h.elim (fun x => .inl (key _ x)) (fun x => .inr (key _ x))
theorem bld_lt {T e : TypeId} {B b : Nat} {bs : List Value} {w : World} (h : Lib.IsBuilderF T e B b bs w) : b < w.heap.size := by
  rcases h with h | h <;> exact h.lt
/-- The text so far is l; all that was in the world W is as it was. -/
structure TS (W : World) (b : Nat) (l : List UInt8) (w : World) : Prop where
  bel : Below W.heap.size W w
  bld : Lib.IsBuilderF 70 5 W.heap.size b (Lib.byteCells l) w
theorem TS.below {W : World} {b : Nat} {l : List UInt8} {w w' : World} (h : TS W b l w) (k : Below w.heap.size w w') : TS W b l w' := ⟨h.bel.trans (k.mono h.bel.size), bld_below h.bld k⟩
theorem wr_any (W : World) (b : Nat) (l : List UInt8) (s : ByteArray) (w : World) (h : TS W b l w) (hlen : l.length + s.size ≤ 140737488355328) :
    Calls Tryz.prog 83 #[.pointer (some ⟨b, 0, none⟩), .string s] w fun e w' => e = .returned (.tuple #[.int .i64 s.size, .nilIface]) ∧ TS W b (l ++ s.data.toList) w' ∧ Lib.OthersKept 5 (some b) w w' := by
  refine (write_any W.heap.size b (Lib.byteCells l) s w h.bld (by rw [Lib.byteCells_length]; exact hlen) h.bel.size).mono ?_
  rintro e w1 ⟨rfl, h1, h2, h3⟩
  refine ⟨rfl, ⟨h.bel.trans h2, .inr ?_⟩, h3⟩
  have e : Lib.byteCells (l ++ s.data.toList) = Lib.byteCells l ++ Lib.strCells s := by simp [Lib.byteCells, Lib.strCells]
  rw [e]
  exact h1
end Go.Proofs.YtncifeeinogcnaaGreatDoor
/- Show: a type's text is written. -/
set_option maxRecDepth 100000
namespace Go.Proofs.YtncifeeinogcnaaGreatDoor
open Go.Shelf Go.RowKit Go.Lib Go.Sort Go.Proofs.TreeMath

/-- Is a node's tree set in brackets? By one of two functions. -/
theorem enc1_any (m : Nd) (w : World) : Calls Tryz.prog 86 #[m.val] w fun e w' => e = .returned (.bool (decide (m.text = sArrow))) ∧ Below w.heap.size w w' := by
  obtain ⟨k, s, nm, c⟩ := m
  have A : ∀ b : Bool, (decide (s = sArrow)) = b → Hid (∀ w', Below w.heap.size w w' → (Ending.returned (.bool b) = .returned (.bool (decide (s = sArrow))) ∧ Below w.heap.size w w')) := fun b hb => Lib.hid fun w' h => ⟨by rw [hb], h⟩
  have BA : Hid (Below w.heap.size w (w.alloc (.cells #[.int .i64 k, .string s, .int .i64 nm, .int .i64 c] 58))) := Lib.hid ((Below.refl _ _).alloc (Nat.le_refl _) _)
  unfold Nd.val
  show Calls Tryz.prog 86 #[.agg #[.int .i64 k, .string s, .int .i64 nm, .int .i64 c]] w fun e w' => e = .returned (.bool (decide (s = sArrow))) ∧ Below w.heap.size w w'
  by_cases h : s = sArrow
  · have E := A true (by simp [h])
    generalize decide (s = sArrow) = z at *
    subst h
    unfold sArrow at *
    clear A
    go_enter Tryz.func86, Tryz.ntmps86
    go_wp2
    go_ret
    exact E.out _ BA.out
  · have E := A false (by simpa using h)
    have t1 := str_ne h
    rw [tl_arrow] at t1
    have t2 := str_ne' h
    rw [tl_arrow] at t2
    generalize decide (s = sArrow) = z at *
    clear A h
    go_enter Tryz.func86, Tryz.ntmps86
    go_wp2
    go_ret
    exact E.out _ BA.out
theorem enc2_any (m : Nd) (w : World) : Calls Tryz.prog 87 #[m.val] w fun e w' => e = .returned (.bool (decide (0 < m.kids))) ∧ Below w.heap.size w w' := by
  obtain ⟨k, s, nm, c⟩ := m
  have BA : Hid (Below w.heap.size w (w.alloc (.cells #[.int .i64 k, .string s, .int .i64 nm, .int .i64 c] 58))) := Lib.hid ((Below.refl _ _).alloc (Nat.le_refl _) _)
  unfold Nd.val
  show Calls Tryz.prog 87 #[.agg #[.int .i64 k, .string s, .int .i64 nm, .int .i64 c]] w fun e w' => e = .returned (.bool (decide (0 < c))) ∧ Below w.heap.size w w'
  cases hz : decide (0 < c) with
  | true =>
    go_enter Tryz.func87, Tryz.ntmps87
    go_wp2
    go_ret
    exact ⟨rfl, BA.out⟩
  | false =>
    go_enter Tryz.func87, Tryz.ntmps87
    go_wp2
    go_ret
    exact ⟨rfl, BA.out⟩
def WPost (W : World) (b next : Nat) (l : List UInt8) (e : Ending) (w' : World) : Prop := e = .returned (.int .i64 (next : Int)) ∧ TS W b l w'
/-- That a tree's text is written as it should. -/
def GoodW (W : World) (b : Nat) (tv : Value) (ns : List Nd) (n : Nd) (k : F) : Prop :=
  ∀ (pre post : List Nd) (l : List UInt8) (w : World), ns = pre ++ (n :: (k.flat ++ post)) → l.length + 100000020 * (1 + k.sz) ≤ 140737488355328 → TS W b l w →
    Calls Tryz.prog 43 #[.pointer (some ⟨b, 0, none⟩), tv, .int .i64 (pre.length : Int)] w (WPost W b (pre.length + 1 + k.sz) (l ++ shN n (shF k)))
def AllGoodW (W : World) (b : Nat) (tv : Value) (ns : List Nd) : F → Prop
  | .nil => True
  | .cons n k r => GoodW W b tv ns n k ∧ AllGoodW W b tv ns r
theorem shN_one (n : Nd) (k : F) (h : okT (.cons n k .nil)) : (shN n (shF k)).length + 3 ≤ 100000020 * (1 + k.sz) := by
  have := shF_len _ h
  simp only [shF, F.sz] at this
  rw [shL_cons] at this
  simp only [shL, List.map_nil, List.sum_nil] at this
  omega
set_option maxHeartbeats 2000000 in
/-- A part, in brackets or not. -/
theorem part_good (W : World) (b : Nat) (tv : Value) (ns : List Nd) (n : Nd) (k : F) (g : Nat) (y : Bool) (hg : Hid (∀ vs w, (callFunc g vs).run Tryz.prog w = .ok (.enter g vs) w)) (hns : NodesAt W tv ns) (hn4 : ns.length ≤ 4000) (hk : Hid (GoodW W b tv ns n k)) (ht : okT (.cons n k .nil))
    (hf : Hid (∀ w, Calls Tryz.prog g #[n.val] w fun e w' => e = .returned (.bool y) ∧ Below w.heap.size w w')) (pre post : List Nd) (l : List UInt8) (w : World) (he : ns = pre ++ (n :: (k.flat ++ post))) (hl : l.length + 100000020 * (1 + k.sz) + 2 ≤ 140737488355328) (hT : TS W b l w) :
    Calls Tryz.prog 85 #[.pointer (some ⟨b, 0, none⟩), tv, .int .i64 (pre.length : Int), .func (.func g) #[] #[]] w (WPost W b (pre.length + 1 + k.sz) (l ++ brk y (shN n (shF k)))) := by
  have hlen : pre.length < ns.length := by rw [he]; simp
  have hnode : ns.getD pre.length default = n := by rw [he]; simp [List.getD_eq_getElem?_getD]
  obtain ⟨_, q, c, rfl, _, _, g4⟩ := hns
  obtain ⟨bb, off, rfl, hb, hc⟩ := g4 (by omega)
  obtain ⟨c0, c1, c2, c3⟩ := CellsIn.node (hc.kept (hT.bel.block bb hb)) pre.length hlen
  rw [hnode] at c0 c1 c2 c3
  have LEN := Lib.hid (shN_one n k ht)
  have HT := Lib.hid hT
  have HE := Lib.hid he
  have HL := Lib.hid hl
  have hi9 : ns.length ≤ 4000 := hn4
  obtain ⟨I, hI⟩ : ∃ I, I = pre.length := ⟨_, rfl⟩
  obtain ⟨M, hM⟩ : ∃ M, M = ns.length := ⟨_, rfl⟩
  have CALL : Hid (∀ (l' : List UInt8) (w' : World), l'.length + 100000020 * (1 + k.sz) ≤ 140737488355328 → TS W b l' w' → Calls Tryz.prog 43 #[.pointer (some ⟨b, 0, none⟩), .slice (some ⟨bb, off, none⟩) M c, .int .i64 (I : Int)] w' (WPost W b (I + 1 + k.sz) (l' ++ shN n (shF k)))) := Lib.hid fun l' w' h1 h2 => by
    rw [hI, hM]; exact hk.out pre post l' w' he h1 h2
  rw [← hI] at c0 c1 c2 c3 hlen ⊢
  rw [← hM] at hlen hi9 ⊢
  obtain ⟨NX, hNX⟩ : ∃ NX, NX = I + 1 + k.sz := ⟨_, rfl⟩
  rw [← hNX] at CALL ⊢
  clear hNX
  have HI := Lib.hid hI
  have HM := Lib.hid hM
  clear hI hM hT he hl hk hc hb g4 hnode hn4 ht
  obtain ⟨nk, nt, nn, nc⟩ := n
  simp only at c0 c1 c2 c3
  have FN := Lib.hid hf.out
  unfold Nd.val at FN
  simp only at FN
  clear hf
  cases y with
  | false =>
    have E : Hid (∀ w', WPost W b NX (l ++ shN ⟨nk, nt, nn, nc⟩ (shF k)) (.returned (.int .i64 (NX : Int))) w' → WPost W b NX (l ++ brk false (shN ⟨nk, nt, nn, nc⟩ (shF k))) (.returned (.int .i64 (NX : Int))) w') := Lib.hid fun _ h => h
    generalize hZ : WPost W b NX (l ++ brk false (shN ⟨nk, nt, nn, nc⟩ (shF k))) = Z at *
    clear hZ
    go_enter Tryz.func85, Tryz.ntmps85
    go_wp2_with ((refine wpList_call_slot (o := ⟨some 14, _, _, _, _, _⟩) rfl 9 _ _ rfl g #[] rfl hg.out (#[.agg #[.int .i64 nk, .string nt, .int .i64 nn, .int .i64 nc]]) (by simp [go_sem]) ?_; refine (FN.out _).mono ?_; rintro e w1 ⟨rfl, b1⟩; refine ⟨_, rfl, ?_⟩; simp only [Act.put, List.setIfInBounds_toArray, List.set_cons_succ, List.set_cons_zero]))
    have H1 := Lib.hid (HT.out.below b1)
    clear b1
    go_wp2_with fail
    refine (CALL.out l w1 (by have := HL.out; omega) H1.out).mono ?_
    rintro e w2 ⟨rfl, h2⟩
    have H2 := Lib.hid (E.out _ ⟨rfl, h2⟩)
    clear h2
    go_wp2
    first | go_ret | skip
    exact H2.out
  | true =>
    have E : Hid (∀ w', TS W b (l ++ [40] ++ shN ⟨nk, nt, nn, nc⟩ (shF k) ++ [41]) w' → WPost W b NX (l ++ brk true (shN ⟨nk, nt, nn, nc⟩ (shF k))) (.returned (.int .i64 (NX : Int))) w') := Lib.hid fun _ h => ⟨rfl, by
      have e : l ++ brk true (shN ⟨nk, nt, nn, nc⟩ (shF k)) = l ++ [40] ++ shN ⟨nk, nt, nn, nc⟩ (shF k) ++ [41] := by simp [brk]
      rw [e]; exact h⟩
    generalize hZ : WPost W b NX (l ++ brk true (shN ⟨nk, nt, nn, nc⟩ (shF k))) = Z at *
    clear hZ
    go_enter Tryz.func85, Tryz.ntmps85
    go_wp2_with ((refine wpList_call_slot (o := ⟨some 14, _, _, _, _, _⟩) rfl 9 _ _ rfl g #[] rfl hg.out (#[.agg #[.int .i64 nk, .string nt, .int .i64 nn, .int .i64 nc]]) (by simp [go_sem]) ?_; refine (FN.out _).mono ?_; rintro e w1 ⟨rfl, b1⟩; refine ⟨_, rfl, ?_⟩; simp only [Act.put, List.setIfInBounds_toArray, List.set_cons_succ, List.set_cons_zero]))
    have H1 := Lib.hid (HT.out.below b1)
    clear b1
    have W1 := Lib.hid (wr_any W b l ⟨#[40]⟩ w1 H1.out (by have := HL.out; show _ + 1 ≤ _; omega))
    go_wp2_with fail
    refine W1.out.mono ?_
    rintro e w2 ⟨rfl, h2, _⟩
    have H2 := Lib.hid h2
    clear h2 W1 H1
    go_wp2_with fail
    refine (CALL.out _ w2 (by have := HL.out; show (l ++ [40]).length + _ ≤ _; simp; omega) H2.out).mono ?_
    rintro e w3 ⟨rfl, h3⟩
    have W3 := Lib.hid (wr_any W b _ ⟨#[41]⟩ w3 h3 (by have := HL.out; have := LEN.out; show (l ++ [40] ++ _).length + 1 ≤ _; simp at *; omega))
    clear h3 H2 CALL
    go_wp2_with fail
    refine W3.out.mono ?_
    rintro e w4 ⟨rfl, h4, _⟩
    have H4 := Lib.hid (E.out _ h4)
    clear h4 W3
    go_wp2
    first | go_ret | skip
    exact H4.out
end Go.Proofs.YtncifeeinogcnaaGreatDoor
