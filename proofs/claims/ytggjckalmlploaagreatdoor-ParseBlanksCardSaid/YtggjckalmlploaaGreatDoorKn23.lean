/- Texts of this seat, one behind the other: LxFixH. -/
import Derived.Test.YtggjckalmlploaaGreatDoorKn22
/- The contract of climb: how a part binds, put behind what is there. -/
set_option maxRecDepth 100000
namespace Go
theorem step_append_any {P : Program} {ops : Array Oper} {o : Oper} {a : Act} {w : World} {K : Act → World → Prop} {Q : Exit → Act → World → Prop} {E : Prop} (hgd : o.guard = none) (s x : Operand) (t : TypeId)
    (ho : o.op = .call { callee := .builtin .append, args := #[s, x], argTypes := #[t, t] })
    (base : Nat) (e : TypeId) (i : TypeInfo) (z : Value) (size bytes : Nat) (ht : P.underlying t = some (.slice e)) (hi : P.info? e = some i) (hz : i.zero = some z)
    (hsize : i.size = size) (hby : i.bytes = bytes) (hzs : z.cells.size = size) (hsz : 0 < size)
    (v : Value) (n : Nat) (xs : List Value) (hs : a.eval s = v) (hown : w.ownsRow base e size v n xs)
    (q : Option Addr) (m c : Nat) (news : List Value) (hx : a.eval x = .slice q m c) (hl : news.length = m * size) (hq : m ≠ 0 → ∃ ad, q = some ad ∧ ∀ j u, news[j]? = some u → w.cell? (ad.add j) = some u) (h1 : ∀ u ∈ news, u.oneCell' = true)
    (h63 : n + m ≤ maxLen) (hbytes : (n + m) * bytes ≤ 140737488355328) (hbase : base ≤ w.heap.size)
    (h : ∀ p' cap' w', w'.ownsRow base e size (.slice p' (n + m) cap') (n + m) (xs ++ news) → w.grownBy w' v.ownBlock → ((Value.slice p' (n + m) cap').ownBlock = v.ownBlock ∨ (Value.slice p' (n + m) cap').ownBlock = some w.heap.size) → K (a.put o.dst (.slice p' (n + m) cap')) w') :
    if Region.wanted o (yielded ops a.tmps) = true then Oper.wp P o a w K Q else E := by
  have hw : Region.wanted o (yielded ops a.tmps) = true := by simp [Region.wanted, hgd]
  rw [if_pos hw]
  obtain ⟨v', w', hr, h2, h3, h4, h5⟩ := run_append_any (P := P) w base t o.type e i z size bytes ht hi hz hsize hby hzs hsz v n xs hown q m c news hl hq h1 h63 hbytes hbase
  obtain ⟨p', cap', rfl⟩ : ∃ p' cap', v' = .slice p' (n + m) cap' := by
    rcases h2.2 with ⟨rfl, e⟩ | ⟨g, cap, cur, rfl, _⟩
    · exact ⟨none, 0, by rw [e]⟩
    · exact ⟨_, _, rfl⟩
  unfold Oper.wp execOp
  simp only [ho, resolve, invoke, builtin, Sem.run_bind, Sem.run_pure, Result.andThen_ok, List.map_toArray, List.map_cons, List.map_nil, hs, hx, hr]
  exact h p' cap' w' h2 h3 h5
end Go
namespace Go.Proofs.YtggjckalmlploaaGreatDoor.Lx
open Go.Shelf Go.RowKit Go.Lib Go.Sort Go.Proofs.FixMath

theorem cut_fix {w : World} {b off n c : Nat} {ns : List Fx} (hn : ns.length = n) (hnc : n ≤ c) (hcm : c ≤ maxLen) (hb : b < w.heap.size) (hc : CellsIn w b off (fxCells ns)) (i E : Nat) (hiE : i ≤ E) (hEn : E ≤ n) :
    FixAt w (.slice (some ⟨b, off + i * 3, none⟩) (E - i) (c - i)) ((ns.drop i).take (E - i)) := by
  have h := SliceAt.cut (size := 3) (n := n) (by rw [length_fxCells, hn]) hc hb i E hiE hEn (c - i) (by omega) (by omega)
  have hl : ((ns.drop i).take (E - i)).length = E - i := by rw [List.length_take, List.length_drop, hn]; omega
  unfold FixAt
  rw [hl, fxCells_take, fxCells_drop]
  exact h
theorem cut_first {w : World} {b off n c : Nat} {ns : List Fx} (hn : ns.length = n) (hnc : n ≤ c) (hcm : c ≤ maxLen) (hb : b < w.heap.size) (hc : CellsIn w b off (fxCells ns)) (i : Nat) (hi : i ≤ n) : FixAt w (.slice (some ⟨b, off, none⟩) i c) (ns.take i) := by
  have := cut_fix hn hnc hcm hb hc 0 i (by omega) hi
  simpa using this
theorem cut_rest {w : World} {b off n c : Nat} {ns : List Fx} (hn : ns.length = n) (hnc : n ≤ c) (hcm : c ≤ maxLen) (hb : b < w.heap.size) (hc : CellsIn w b off (fxCells ns)) (i : Nat) (hi : i ≤ n) : FixAt w (.slice (some ⟨b, off + i * 3, none⟩) (n - i) (c - i)) (ns.drop i) := by
  have := cut_fix hn hnc hcm hb hc i n hi (Nat.le_refl _)
  rwa [List.take_of_length_le (by rw [List.length_drop, hn]; omega)] at this
theorem cut_none {w : World} {p : Option Addr} {c : Nat} (hc : c ≤ maxLen) : FixAt w (.slice p 0 c) [] := ⟨rfl, _, _, rfl, Nat.zero_le _, hc, fun h => absurd rfl h⟩
/-- What climb comes to: the row with the part behind it, or nothing. -/
def FxCRes (o : Option (List Int)) (base : Nat) (xs : List Int) (v : Value) (W : World) (e : Ending) (w' : World) : Prop :=
  W.grownBy w' v.ownBlock ∧ match o with
  | some c => ∃ p k, e = .returned (.tuple #[.slice p (xs.length + c.length) k, .bool true]) ∧ IRow base w' (.slice p (xs.length + c.length) k) (xs ++ c) ∧ ((Value.slice p (xs.length + c.length) k).ownBlock = v.ownBlock ∨ ∃ g, (Value.slice p (xs.length + c.length) k).ownBlock = some g ∧ W.heap.size ≤ g)
  | none => e = .returned (.tuple #[.slice none 0 0, .bool false])
theorem FxCRes.none' {base : Nat} {xs : List Int} {v : Value} {W w' : World} (h : W.grownBy w' v.ownBlock) : FxCRes none base xs v W (.returned (.tuple #[.slice none 0 0, .bool false])) w' := ⟨h, rfl⟩
theorem below_grownBy {w w' : World} (row : Option Nat) (b : Below w.heap.size w w') : w.grownBy w' row := ⟨b.os, b.tape, b.output, b.size, fun k hk _ => b.block k hk⟩
/-- From a row that lies where it lay, or in a block that is new. -/
theorem grown_row {A B C : World} {r r' : Option Nat} (h : A.grownBy B r) (k : B.grownBy C r') (hr : r' = r ∨ ∃ g, r' = some g ∧ A.heap.size ≤ g) : A.grownBy C r :=
  ⟨k.os.trans h.os, k.tape.trans h.tape, k.output.trans h.output, Nat.le_trans h.size k.size, fun i hi hne => by
    refine (k.block i (Nat.lt_of_lt_of_le hi h.size) ?_).trans (h.block i hi hne)
    rcases hr with rfl | ⟨g, rfl, hg⟩
    · exact hne
    · intro e; simp at e; omega⟩
theorem CellsIn.grown {w w' : World} {b off : Nat} {cs : List Value} {r : Option Nat} (h : CellsIn w b off cs) (hb : b < w.heap.size) (g : w.grownBy w' r) (hr : some b ≠ r) : CellsIn w' b off cs := h.kept (g.block b hb hr)
/-- A part that lies apart from a row. -/
def Apart (w : World) (u v : Value) (ps : List Fx) : Prop := FixAt w u ps ∧ (ps ≠ [] → ∃ b, u.ownBlock = some b ∧ b < w.heap.size ∧ some b ≠ v.ownBlock)
theorem one_int (x : Int) : ∀ u ∈ [Value.int .i64 x], u.oneCell' = true := by simp [Value.oneCell']
theorem IRow.put {base : Nat} {w : World} {p : Option Addr} {n k : Nat} {xs : List Int} {x : Int} (hn : xs.length = n) (h : w.ownsRow base 3 1 (.slice p (n + 1) k) (n + 1) (intCells xs ++ [Value.int .i64 x])) : IRow base w (.slice p (xs.length + [x].length) k) (xs ++ [x]) := by
  subst hn
  unfold IRow
  rw [intCells_append]
  simpa [intCells] using h
set_option maxHeartbeats 1000000 in
theorem climb_nil (fr : Int) (p q : Option Addr) (n k c : Nat) (xs : List Int) (w : World) (base : Nat) (hn : Hid (xs.length = n)) (h0 : 0 ≤ fr) (hfr : fr ≤ 1000000) (hlen : n ≤ 1000000) (hrow : Hid (IRow base w (.slice p n k) xs)) (hbase : Hid (base ≤ w.heap.size)) :
    Calls Tryz.prog 129 #[.slice p n k, .slice q 0 c, .int .i64 fr] w (FxCRes (some [-1 - fr]) base xs (.slice p n k) w) := by
  obtain ⟨i0, hi, hz0, hz1, hz2⟩ := infoInt
  have HI := Lib.hid (And.intro hi (And.intro hz0 (And.intro hz1 hz2)))
  clear hi hz0 hz1 hz2
  have BA : Hid (Below w.heap.size w (w.alloc (.cells #[.int .i64 (-1 - fr)] 3))) := Lib.hid ((Below.refl _ _).alloc (Nat.le_refl _) _)
  have own := hrow.out.after BA.out
  unfold IRow at own
  rw [hn.out] at own
  have OWN := Lib.hid own
  clear own
  have hmax : n + 1 ≤ maxLen := by unfold maxLen; omega
  have hbyt : (n + 1) * 8 ≤ 140737488355328 := by omega
  have HM := Lib.hid (And.intro hmax hbyt)
  clear hmax hbyt
  go_enter Tryz.func129, Tryz.ntmps129
  go_wp2_with (at_builtin; refine wpList_append_any _ rfl _ _ 91 rfl base 3 i0 (.int .i64 0) 1 8 Tryz.underlying91 HI.out.1 HI.out.2.1 HI.out.2.2.1 HI.out.2.2.2 rfl (by decide) (.slice p n k) n (intCells xs) rfl OWN.out (some ⟨w.heap.size, 0, none⟩) 1 1 [.int .i64 (-1 - fr)] rfl rfl (fun _ => ⟨_, rfl, cell_one_new _ _ _⟩) (one_int _) HM.out.1 HM.out.2 (Nat.le_trans hbase.out BA.out.size) ?_; intro p' cap' w2 hown hgrow hblk; have HO := Lib.hid hown; have HG := Lib.hid hgrow; have HB := Lib.hid hblk; clear hown hgrow hblk)
  go_ret2
  refine ⟨grown_row (below_grownBy _ BA.out) HG.out (.inl rfl), p', cap', by rw [hn.out]; rfl, IRow.put hn.out HO.out, ?_⟩
  rw [hn.out]
  rcases HB.out with h | h
  · exact .inl h
  · exact .inr ⟨_, h, by simp⟩
set_option maxHeartbeats 1000000 in
theorem climb_none (fr : Int) (v : Value) (u : Value) (ps : List Fx) (xs : List Int) (w : World) (base : Nat) (hps : ps ≠ []) (hl : ps.length ≤ 1000000) (hf : ∀ f ∈ ps, fine f) (hu : FixAt w u ps) (hr : root ps = none) :
    Calls Tryz.prog 129 #[v, u, .int .i64 fr] w (FxCRes none base xs v w) := by
  have C := root_any u ps w hu hps hl hf
  rw [hr] at C
  have CC := Lib.hid C
  have hn : ¬ ps.length = 0 := fun e => hps (List.eq_nil_of_length_eq_zero e)
  obtain ⟨q, c, rfl⟩ := fix_form hu
  generalize ps.length = n at *
  have g : ((n : Int) == 0) = false := by simp; omega
  clear C hr hf hu hps hn
  go_enter Tryz.func129, Tryz.ntmps129
  go_wp2_with fail
  refine CC.out.mono ?_
  rintro e w1 ⟨rfl, b1⟩
  have B1 := Lib.hid b1
  clear b1
  simp only [optI]
  go_wp2
  go_ret2
  exact FxCRes.none' (below_grownBy _ B1.out)
theorem call35 (vs : Array Value) (w : World) : (callFunc 129 vs).run Tryz.prog w = .ok (.enter 129 vs) w := run_callFunc Tryz.func129 (by kernel_rfl) (by kernel_rfl) vs w
/-- The contract at a part. -/
def ClimbAt (o : Option (List Int)) (ps : List Fx) (fr : Int) : Prop := ∀ (p : Option Addr) (n k : Nat) (u : Value) (xs : List Int) (w : World) (base : Nat), xs.length = n → xs.length + (2 * ps.length + 1) ≤ 1000000 → IRow base w (.slice p n k) xs → base ≤ w.heap.size → Apart w u (.slice p n k) ps →
    Calls Tryz.prog 129 #[.slice p n k, u, .int .i64 fr] w (FxCRes o base xs (.slice p n k) w)
theorem FxCRes.form {o : Option (List Int)} {base : Nat} {xs : List Int} {v : Value} {W w' : World} {e : Ending} (h : FxCRes o base xs v W e w') :
    ∃ p n k, e = .returned (.tuple #[.slice p n k, .bool o.isSome]) ∧ W.grownBy w' v.ownBlock ∧ (∀ c, o = some c → n = xs.length + c.length ∧ IRow base w' (.slice p n k) (xs ++ c) ∧ ((Value.slice p n k).ownBlock = v.ownBlock ∨ ∃ g, (Value.slice p n k).ownBlock = some g ∧ W.heap.size ≤ g)) ∧ (o = none → p = none ∧ n = 0 ∧ k = 0) := by
  obtain ⟨h1, h2⟩ := h
  cases o with
  | none => exact ⟨none, 0, 0, h2, h1, (fun c hc => by cases hc), fun _ => ⟨rfl, rfl, rfl⟩⟩
  | some c =>
    obtain ⟨p, k, he, hr, ho⟩ := h2
    exact ⟨p, _, k, he, h1, (fun c' hc => by cases hc; exact ⟨rfl, hr, ho⟩), fun hc => by cases hc⟩
/-- What stands behind the append of one number. -/
def Put1 (base : Nat) (w1 w2 : World) (p p' : Option Addr) (n k k' : Nat) (xs : List Int) (x : Int) : Prop :=
  w1.grownBy w2 (Value.slice p n k).ownBlock ∧ IRow base w2 (.slice p' (n + 1) k') (xs ++ [x]) ∧ ((Value.slice p' (n + 1) k').ownBlock = (Value.slice p n k).ownBlock ∨ ∃ g, (Value.slice p' (n + 1) k').ownBlock = some g ∧ w1.heap.size ≤ g)
theorem put1 {base : Nat} {w1 wA w2 : World} {p p' : Option Addr} {n k k' : Nat} {xs : List Int} {x : Int} (hn : xs.length = n) (bA : Below w1.heap.size w1 wA) (hown : w2.ownsRow base 3 1 (.slice p' (n + 1) k') (n + 1) (intCells xs ++ [Value.int .i64 x])) (hgrow : wA.grownBy w2 (Value.slice p n k).ownBlock) (hblk : (Value.slice p' (n + 1) k').ownBlock = (Value.slice p n k).ownBlock ∨ (Value.slice p' (n + 1) k').ownBlock = some wA.heap.size) : Put1 base w1 w2 p p' n k k' xs x := by
  refine ⟨grown_row (below_grownBy _ bA) hgrow (.inl rfl), ?_, ?_⟩
  · have := IRow.put hn hown
    rw [hn] at this
    exact this
  · rcases hblk with h | h
    · exact .inl h
    · exact .inr ⟨_, h, bA.size⟩
theorem Put1.apart {base : Nat} {w1 w2 W : World} {p p' : Option Addr} {n k k' b off m c i : Nat} {xs : List Int} {x : Int} {ps : List Fx} (h : Put1 base w1 w2 p p' n k k' xs x) (hW : Below w2.heap.size w2 W) (hb : b < w1.heap.size) (hm : ps.length = m) (hmc : m ≤ c) (hcm : c ≤ 9223372036854775807) (him : i ≤ m) (hc : CellsIn w1 b off (fxCells ps)) (hab : some b ≠ (Value.slice p n k).ownBlock) :
    Apart W (.slice (some ⟨b, off, none⟩) i c) (.slice p' (n + 1) k') (ps.take i) := by
  have hb2 : b < w2.heap.size := Nat.lt_of_lt_of_le hb h.1.size
  have hbW : b < W.heap.size := Nat.lt_of_lt_of_le hb2 hW.size
  refine ⟨cut_first hm hmc (by unfold maxLen; exact hcm) hbW ((hc.grown hb h.1 hab).below hb2 hW) i him, fun _ => ⟨b, rfl, hbW, ?_⟩⟩
  rcases h.2.2 with e | ⟨g, e, hg⟩
  · rw [e]; exact hab
  · rw [e]; intro e2; simp at e2; omega
set_option maxRecDepth 100000 in
set_option maxHeartbeats 4000000 in
theorem climb_some (o1 o2 : Option (List Int)) (fr : Int) (p : Option Addr) (b off n m k c i : Nat) (ps : List Fx) (xs : List Int) (w : World) (base : Nat) (hn : Hid (xs.length = n)) (hm : Hid (ps.length = m)) (h0 : 0 ≤ fr) (hfr : fr + m ≤ 1000000) (hlen : n + (2 * m + 1) ≤ 1000000) (hf : Hid (∀ f ∈ ps, fine f)) (hrow : Hid (IRow base w (.slice p n k) xs)) (hbase : Hid (base ≤ w.heap.size))
    (hmc : m ≤ c) (hcm : c ≤ 9223372036854775807) (hb : b < w.heap.size) (hc : Hid (CellsIn w b off (fxCells ps))) (hab : Hid (some b ≠ (Value.slice p n k).ownBlock)) (hr : Hid (root ps = some i)) (him : i < m)
    (HL : Hid (ClimbAt o1 (ps.take i) fr)) (HR : Hid (ClimbAt o2 (ps.drop (i + 1)) (fr + i + 1))) (L1 : ∀ a, o1 = some a → a.length = 2 * i + 1) (R : Option (List Int)) (HRR : Hid (R = match o1, o2 with | some a, some b => some ((fr + i) :: (a ++ b)) | _, _ => none)) :
    Calls Tryz.prog 129 #[.slice p n k, .slice (some ⟨b, off, none⟩) m c, .int .i64 fr] w (FxCRes R base xs (.slice p n k) w) := by
  have LL := Lib.hid L1
  clear L1
  have hu : FixAt w (.slice (some ⟨b, off, none⟩) m c) ps := by
    have := cut_rest hm.out hmc (by unfold maxLen; exact hcm) hb hc.out 0 (by omega)
    simpa using this
  have C := root_any _ ps w hu (by intro e; have := hm.out; rw [e] at this; simp at this; omega) (by rw [hm.out]; omega) hf.out
  rw [hr.out] at C
  have CC := Lib.hid C
  obtain ⟨i0, hi, hz0, hz1, hz2⟩ := infoInt
  have HI := Lib.hid (And.intro hi (And.intro hz0 (And.intro hz1 hz2)))
  have g : ((m : Int) == 0) = false := by simp; omega
  have gi : decide ((i : Int) < 0) = false := by simp
  clear hi hz0 hz1 hz2 C hu
  go_enter Tryz.func129, Tryz.ntmps129
  go_wp2_with fail
  refine CC.out.mono ?_
  rintro e w1 ⟨rfl, b1⟩
  simp only [optI]
  have B1 := Lib.hid b1
  have own := hrow.out.after b1
  have hbase1 : base ≤ w1.heap.size := Nat.le_trans hbase.out b1.size
  have hb1 : b < w1.heap.size := Nat.lt_of_lt_of_le hb b1.size
  have HC1 := Lib.hid (hc.out.below hb b1)
  have OWN := Lib.hid own
  clear b1 own CC
  have hmax : n + 1 ≤ maxLen := by unfold maxLen; omega
  have hbyt : (n + 1) * 8 ≤ 140737488355328 := by omega
  have HM := Lib.hid (And.intro hmax (And.intro hbyt hbase1))
  clear hmax hbyt hbase1
  have z1 : IntKind.i64.wrap (fr + (i : Int)) = fr + i := IntWalk.i64_in _ (by omega)
  have z2 : (0 : Int) ≤ (i : Int) := by omega
  have z3 : (i : Int) ≤ (m : Int) := by omega
  have z4 : i ≤ c := by omega
  go_wp2_with fail
  have AP : ∀ w0 : World, Below w1.heap.size w1 w0 → w0.ownsRow base 3 1 (.slice p n k) n (intCells xs) := fun w0 h => by
    have := OWN.out.after h
    unfold IRow at this
    rw [hn.out] at this
    exact this
  have APH := Lib.hid AP
  clear AP
  go_region_law ((first
    | (refine step_append_any (by rfl) _ _ 91 (by rfl) base 3 i0 (.int .i64 0) 1 8 Tryz.underlying91 HI.out.1 HI.out.2.1 HI.out.2.2.1 HI.out.2.2.2 rfl (by decide) (.slice p n k) n (intCells xs) rfl (APH.out _ (by first | exact (Below.refl _ _).alloc (Nat.le_refl _) _ | exact (Below.refl _ _).drew.alloc (Nat.le_refl _) _ | exact ((Below.refl _ _).alloc (Nat.le_refl _) _).drew | exact ((Below.refl _ _).drew.alloc (Nat.le_refl _) _).drew)) (some ⟨w1.heap.size, 0, none⟩) 1 1 [.int .i64 (fr + i)] rfl rfl (fun _ => ⟨_, rfl, by first | exact cell_one_new _ _ _ | exact cell_one_new w1 _ _⟩) (one_int _) HM.out.1 HM.out.2.1 (by simp; have := HM.out.2.2; omega) ?_; intro p' cap' w2 hown hgrow hblk; have PUT := Lib.hid (put1 hn.out (by first | exact (Below.refl _ _).alloc (Nat.le_refl _) _ | exact (Below.refl _ _).drew.alloc (Nat.le_refl _) _ | exact ((Below.refl _ _).alloc (Nat.le_refl _) _).drew | exact ((Below.refl _ _).drew.alloc (Nat.le_refl _) _).drew) hown hgrow hblk); clear hown hgrow hblk)
    | (refine step_call_fn (by rfl) 129 #[.tmp 28, .tmp 31, .tmp 32] #[91, 22, 3] (by rfl) call35 #[.slice p' (n + 1) cap', .slice (some ⟨b, off, none⟩) i c, .int .i64 fr] (by simp [go_sem]) ?_; refine (HL.out p' (n + 1) cap' _ (xs ++ [fr + i]) _ base (by rw [List.length_append, hn.out]; rfl) (by rw [List.length_append, hn.out, List.length_take, hm.out]; simp; omega) (PUT.out.2.1.after (by first | exact Below.refl _ _ | exact (Below.refl _ _).drew)) (by have := PUT.out.1.size; have := HM.out.2.2; (try simp only [World.drew]); omega) (PUT.out.apart (by first | exact Below.refl _ _ | exact (Below.refl _ _).drew) hb1 hm.out hmc hcm (by omega) HC1.out hab.out)).mono ?_; rintro e w3 hres; obtain ⟨p3, n3, k3, rfl, g3, r3, -⟩ := hres.form; have G3 := Lib.hid g3; have R3 := Lib.hid r3; clear hres g3 r3; refine ⟨_, rfl, ?_⟩)
    | fail))
  all_goals
    cases o1 with
    | none =>
      have E : Hid (R = none) := Lib.hid (by rw [HRR.out])
      simp only [Option.isSome]
      go_wp2
      go_ret2
      rw [E.out]
      exact FxCRes.none' (grown_row (below_grownBy _ B1.out) (grown_row PUT.out.1 (by first | exact G3.out | exact grown_row (below_grownBy _ (Below.refl _ _).drew) G3.out (.inl rfl)) PUT.out.2.2) (.inl rfl))
    | some a =>
      have la := LL.out a rfl
      obtain ⟨hn3, hrow3, hown3⟩ := R3.out a rfl
      have G4 : Hid (w1.grownBy w3 (Value.slice p n k).ownBlock) := Lib.hid (grown_row PUT.out.1 (by first | exact G3.out | exact grown_row (below_grownBy _ (Below.refl _ _).drew) G3.out (.inl rfl)) PUT.out.2.2)
      have hl3 : n3 = n + (2 * i + 2) := by rw [hn3, List.length_append, hn.out, la]; simp; omega
      have own4 : (Value.slice p3 n3 k3).ownBlock = (Value.slice p n k).ownBlock ∨ ∃ g, (Value.slice p3 n3 k3).ownBlock = some g ∧ w1.heap.size ≤ g := by
        rcases hown3 with h | ⟨g, h, hg⟩
        · rw [h]; exact PUT.out.2.2
        · exact .inr ⟨g, h, Nat.le_trans PUT.out.1.size (by simpa [World.drew] using hg)⟩
      have ROW3 := Lib.hid hrow3
      have OWN4 := Lib.hid own4
      have HL3 := Lib.hid hl3
      have hb3 : b < w3.heap.size := Nat.lt_of_lt_of_le hb1 G4.out.size
      have HC3 := Lib.hid (HC1.out.grown hb1 G4.out hab.out)
      have HN3 : Hid ((xs ++ [fr + i] ++ a).length = n3) := Lib.hid (by rw [hl3, List.length_append, List.length_append, hn.out, la]; simp; omega)
      clear hrow3 own4 hown3 la PUT G3 R3 hn3 hl3
      simp only [Option.isSome]
      have z5 : IntKind.i64.wrap ((i : Int) + 1) = ((i + 1 : Nat) : Int) := by rw [IntWalk.i64_in _ (by omega)]; omega
      have z6 : IntKind.i64.wrap (fr + (i : Int)) = fr + i := IntWalk.i64_in _ (by omega)
      have z7 : IntKind.i64.wrap (fr + (i : Int) + 1) = fr + i + 1 := IntWalk.i64_in _ (by omega)
      have AP3 : (c = i + 1 → Apart w3 (.slice (some ⟨b, off, none⟩) (m - (i + 1)) 0) (.slice p3 n3 k3) (ps.drop (i + 1))) ∧ Apart w3 (.slice (some ⟨b, off + (i + 1) * 3, none⟩) (m - (i + 1)) (c - (i + 1))) (.slice p3 n3 k3) (ps.drop (i + 1)) := by
        have hap : some b ≠ (Value.slice p3 n3 k3).ownBlock := by
          rcases OWN4.out with e | ⟨g, e, hg⟩
          · rw [e]; exact hab.out
          · rw [e]; intro e2; simp at e2; omega
        refine ⟨fun h0 => ⟨?_, fun _ => ⟨b, rfl, hb3, hap⟩⟩, ?_, fun _ => ⟨b, rfl, hb3, hap⟩⟩
        · rw [List.drop_of_length_le (by rw [hm.out]; omega), show m - (i + 1) = 0 by omega]
          exact cut_none (Nat.zero_le _)
        · exact cut_rest hm.out hmc (by unfold maxLen; exact hcm) hb3 HC3.out (i + 1) (by omega)
      have AP3H := Lib.hid AP3
      clear AP3
      have HB3 : Hid (base ≤ w3.heap.size) := Lib.hid (Nat.le_trans HM.out.2.2 G4.out.size)
      have HLX : Hid ((xs ++ [fr + i] ++ a).length + (2 * (ps.drop (i + 1)).length + 1) ≤ 1000000) := Lib.hid (by rw [HN3.out, HL3.out, List.length_drop, hm.out]; omega)
      go_wp2_with fail
      all_goals
        refine (HR.out p3 n3 k3 _ (xs ++ [fr + i] ++ a) w3 base HN3.out HLX.out ROW3.out HB3.out (by first | exact AP3H.out.2 | exact AP3H.out.1 (by omega))).mono ?_
        rintro e w4 hres
        obtain ⟨p5, n5, k5, rfl, g5, r5, s5⟩ := hres.form
        have G5 := Lib.hid g5
        have R5 := Lib.hid r5
        have S5 := Lib.hid s5
        clear hres g5 r5 s5
        cases o2 with
        | none =>
          have E : Hid (R = none) := Lib.hid (by rw [HRR.out])
          simp only [Option.isSome]
          go_wp2
          go_ret2
          rw [E.out]
          obtain ⟨rfl, rfl, rfl⟩ := S5.out (by first | rfl | trivial)
          exact FxCRes.none' (grown_row (below_grownBy _ B1.out) (grown_row G4.out G5.out OWN4.out) (.inl rfl))
        | some a2 =>
          obtain ⟨hn5, hrow5, hown5⟩ := R5.out a2 rfl
          have E : Hid (R = some ((fr + i) :: (a ++ a2))) := Lib.hid (by rw [HRR.out])
          have ROW5 := Lib.hid hrow5
          have OWN5 := Lib.hid hown5
          have HN5 := Lib.hid hn5
          clear hrow5 hown5 hn5 R5
          simp only [Option.isSome]
          go_wp2
          go_ret2
          rw [E.out]
          have hn6 : n5 = xs.length + ((fr + (i : Int)) :: (a ++ a2)).length := by rw [HN5.out]; simp; omega
          have row6 : IRow base w4 (.slice p5 n5 k5) (xs ++ (fr + (i : Int)) :: (a ++ a2)) := by
            have := ROW5.out
            rwa [show xs ++ [fr + (i : Int)] ++ a ++ a2 = xs ++ (fr + (i : Int)) :: (a ++ a2) by simp] at this
          refine ⟨grown_row (below_grownBy _ B1.out) (grown_row G4.out G5.out OWN4.out) (.inl rfl), p5, k5, by rw [← hn6]; rfl, by rw [← hn6]; exact row6, ?_⟩
          rw [← hn6]
          rcases OWN5.out with h | ⟨g, h, hg⟩
          · rw [h]
            rcases OWN4.out with h4 | ⟨g4, h4, hg4⟩
            · exact .inl h4
            · exact .inr ⟨g4, h4, Nat.le_trans B1.out.size hg4⟩
          · exact .inr ⟨g, h, Nat.le_trans B1.out.size (Nat.le_trans G4.out.size hg)⟩
/-- How a part binds. -/
theorem climb_any (N : Nat) : ∀ (ps : List Fx) (fr : Int), ps.length ≤ N → 0 ≤ fr → fr + ps.length ≤ 1000000 → (∀ f ∈ ps, fine f) → ClimbAt (bindL ps fr) ps fr := by
  induction N with
  | zero =>
    intro ps fr hN h0 hfr hf p n k u xs w base hn hlen hrow hbase hap
    obtain rfl : ps = [] := List.eq_nil_of_length_eq_zero (by omega)
    obtain ⟨q, c, rfl⟩ := fix_form hap.1
    rw [bindL_nil]
    exact climb_nil fr p q n k c xs w base (Lib.hid hn) h0 (by simpa using hfr) (by omega) (Lib.hid hrow) (Lib.hid hbase)
  | succ N ih =>
    intro ps fr hN h0 hfr hf p n k u xs w base hn hlen hrow hbase hap
    by_cases hps : ps = []
    · subst hps
      obtain ⟨q, c, rfl⟩ := fix_form hap.1
      rw [bindL_nil]
      exact climb_nil fr p q n k c xs w base (Lib.hid hn) h0 (by simpa using hfr) (by omega) (Lib.hid hrow) (Lib.hid hbase)
    · cases hr : root ps with
      | none =>
        rw [bindL_none fr hps hr]
        exact climb_none fr _ u ps xs w base hps (by omega) hf hap.1 hr
      | some i =>
        have hi := (root_lt hr).1
        have l1 : (ps.take i).length = i := by simp; omega
        have l2 : (ps.drop (i + 1)).length = ps.length - (i + 1) := by simp
        have f1 : ∀ f ∈ ps.take i, fine f := fun f h => hf f (List.mem_of_mem_take h)
        have f2 : ∀ f ∈ ps.drop (i + 1), fine f := fun f h => hf f (List.mem_of_mem_drop h)
        have c1 := ih (ps.take i) fr (by omega) h0 (by omega) f1
        have c2 := ih (ps.drop (i + 1)) (fr + i + 1) (by omega) (by omega) (by omega) f2
        obtain ⟨⟨_, q, c, rfl, hnc, hcm, hp⟩, hapart⟩ := hap
        obtain ⟨b, off, rfl, hb, hc⟩ := hp (by omega)
        obtain ⟨b', hb', _, hab⟩ := hapart hps
        simp only [Value.ownBlock, Option.some.injEq] at hb'
        subst hb'
        exact climb_some (bindL (ps.take i) fr) (bindL (ps.drop (i + 1)) (fr + i + 1)) fr p b off n ps.length k c i ps xs w base (Lib.hid hn) (Lib.hid rfl) h0 hfr (by omega) (Lib.hid hf) (Lib.hid hrow) (Lib.hid hbase) hnc (by unfold maxLen at hcm; exact hcm) hb (Lib.hid hc) (Lib.hid hab) (Lib.hid hr) hi (Lib.hid c1) (Lib.hid c2) (fun a ha => by rw [bindL_len ha, l1]) _ (Lib.hid (bindL_some fr hr))
end Go.Proofs.YtggjckalmlploaaGreatDoor.Lx
