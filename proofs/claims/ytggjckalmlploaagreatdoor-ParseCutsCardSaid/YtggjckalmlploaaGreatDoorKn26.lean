/- Texts of this seat, one behind the other: ParE. -/
import Derived.Test.YtggjckalmlploaaGreatDoorKn24
import Derived.Test.YtggjckalmlploaaGreatDoorKn25
import Derived.Deep.CutBlock
import Derived.Deep.RegionHeld3
/- The parser: how a row binds. -/
set_option maxRecDepth 100000
namespace Go.Proofs.YtggjckalmlploaaGreatDoor
open Go.Shelf Go.RowKit Go.Lib Go.Proofs.TreeMath Go.Proofs.LexMath Go.Proofs.FixMath Go.Proofs.ParMath
def needS (C : Cfg) (acc : List Fx) (o : Tok) : List Fx := match find C.fs o.text with | some f => if (find acc o.text).isSome = true then acc else acc ++ [f] | none => acc
theorem need_fold (C : Cfg) (ops : List Tok) : needF C ops = ops.foldl (needS C) [] := rfl
theorem fold_drop {α β : Type} (f : α → β → α) (l : List β) (d : β) (k : Nat) (hk : k < l.length) (a : α) : (l.drop k).foldl f a = (l.drop (k + 1)).foldl f (f a (l.getD k d)) := by
  rw [List.drop_eq_getElem_cons hk, List.foldl_cons, List.getD_eq_getElem?_getD, List.getElem?_eq_getElem hk]; rfl
theorem bad_drop (C : Cfg) (l : List Tok) (d : Tok) (k : Nat) (hk : k < l.length) : badOp C (l.drop k) = if (find C.fs (l.getD k d).text).isNone = true then some (l.getD k d) else badOp C (l.drop (k + 1)) := by
  unfold badOp
  rw [List.drop_eq_getElem_cons hk, List.find?_cons, List.getD_eq_getElem?_getD, List.getElem?_eq_getElem hk]
  simp only [Option.getD_some]
  cases (find C.fs l[k].text).isNone <;> rfl
theorem take_map {α β : Type} (f : α → β) (l : List α) (d : α) (k : Nat) (hk : k < l.length) : (l.take (k + 1)).map f = (l.take k).map f ++ [f (l.getD k d)] := by
  rw [List.take_add_one, List.map_append, List.getD_eq_getElem?_getD, List.getElem?_eq_getElem hk]; rfl
def XRow (base : Nat) (w : World) (v : Value) (ss : List ByteArray) : Prop := w.ownsRow base 9 1 v ss.length (Lx.strCells ss)
theorem XRow.nil (base : Nat) (w : World) : XRow base w (.slice none 0 0) [] := World.ownsRow_nil _ _ _ _
theorem XRow.at {base : Nat} {w : World} {v : Value} {ss : List ByteArray} (h : XRow base w v ss) : Lx.StrsAt w v ss := Lx.SliceAt.of_owns h
theorem XRow.after {base : Nat} {w w' : World} {v : Value} {ss : List ByteArray} (h : XRow base w v ss) (b : Below w.heap.size w w') : XRow base w' v ss := World.ownsRow.keep h fun g hg => b.block g (World.ownsRow.there h hg).2
theorem XRow.put {base : Nat} {w : World} {p : Option Addr} {n k : Nat} {ss : List ByteArray} {s : ByteArray} (hn : ss.length = n) (h : w.ownsRow base 9 1 (.slice p (n + 1) k) (n + 1) (Lx.strCells ss ++ [.string s])) : XRow base w (.slice p (n + 1) k) (ss ++ [s]) := by
  subst hn
  unfold XRow
  simpa [Lx.strCells] using h
theorem infoX : ∃ i, Tryz.prog.info? 9 = some i ∧ i.zero = some (.string ByteArray.empty) ∧ i.size = 1 ∧ i.bytes = 16 := Lx.info_of' (by kernel_rfl)
theorem slice_b {w w' : World} {size n : Nat} {v : Value} {cs : List Value} (h : SliceAt w size v n cs) (b : Below w.heap.size w w') : SliceAt w' size v n cs := SliceAt.below h b
theorem below_next {W a b : World} (h : Below W.heap.size W a) (k : Below a.heap.size a b) : Below W.heap.size W b := h.trans (k.mono h.size)
theorem str_lit (w : World) (s : ByteArray) : ∀ j u, [Value.string s][j]? = some u → (w.alloc (.cells #[.string s] 9)).cell? ((⟨w.heap.size, 0, none⟩ : Addr).add j) = some u := fun j u hj => by
  obtain rfl : j = 0 := by
    rcases j with _ | j
    · rfl
    · simp at hj
  simp only [List.getElem?_cons_zero, Option.some.injEq] at hj
  rw [Go.WideShapes.add_plain, ← hj]
  simp
theorem str_one (s : ByteArray) : ∀ u ∈ [Value.string s], u.oneCell' = true := by simp [Value.oneCell']
theorem far_block {w : World} {base e size n : Nat} {v : Value} {xs : List Value} (h : w.ownsRow base e size v n xs) {g : Nat} {cs : Array Value} {T : TypeId} {fz : Nat × Nat} (hb : w.heap[g]? = some (.cells cs T fz)) (hT : e ≠ T) : some g ≠ v.ownBlock := by
  rcases h.2 with ⟨rfl, _⟩ | ⟨k, cap, cur, rfl, _, hk, _⟩
  · simp [Value.ownBlock]
  · intro e2
    have e3 : g = k := by simpa [Value.ownBlock] using e2
    subst e3
    rw [hk] at hb
    simp only [Option.some.injEq, Obj.cells.injEq] at hb
    exact hT hb.2.1
theorem rows_apart {w : World} {b1 e1 s1 n1 b2 e2 s2 n2 : Nat} {v1 v2 : Value} {x1 x2 : List Value} (h : w.ownsRow b1 e1 s1 v1 n1 x1) (k : w.ownsRow b2 e2 s2 v2 n2 x2) (hT : e1 ≠ e2) : v2.ownBlock = none ∨ v2.ownBlock ≠ v1.ownBlock := by
  rcases k.2 with ⟨rfl, _⟩ | ⟨g, cap, cur, rfl, _, hk, _⟩
  · exact .inl rfl
  · exact .inr (far_block h hk hT)
theorem own_far {w : World} {base e size n : Nat} {v : Value} {xs : List Value} (h : w.ownsRow base e size v n xs) {g : Nat} (hg : w.heap.size ≤ g) : some g ≠ v.ownBlock := fun e2 => by
  have := (World.ownsRow.there h e2.symm).2
  omega
theorem ints_none {w w' : World} {v : Value} {xs : List Int} (h : Lx.IntsAt w v xs) (e : xs = []) : Lx.IntsAt w' v xs := by
  subst e
  obtain ⟨h1, p, cap, h2, h3, h4, _⟩ := h
  exact ⟨h1, p, cap, h2, h3, h4, fun h => absurd rfl h⟩
/-- Numbers are returned, and the parser is left so. -/
def IP (C : Cfg) (p : Nat) (dp : Int) (r : List Int × St) (W : World) (e : Ending) (w' : World) : Prop := ∃ v, e = .returned v ∧ Lx.IntsAt w' v r.1 ∧ PS C p dp r.2 w' ∧ Bar p W w'
def zfx : Array Value := #[.string ⟨#[]⟩, .int .i64 0, .int .i64 0]
theorem fz_kept {w w2 : World} (b : Below (w.alloc (.cells #[.string ⟨#[]⟩, .int .i64 0, .int .i64 0] 41)).drew.heap.size (w.alloc (.cells #[.string ⟨#[]⟩, .int .i64 0, .int .i64 0] 41)).drew w2) :
    w2.heap[w.heap.size]? = some (.cells #[.string ⟨#[]⟩, .int .i64 0, .int .i64 0] 41 (0, 0)) ∧ w2.cell? ⟨w.heap.size, 0, none⟩ = some (.string ⟨#[]⟩) ∧ w2.cell? ⟨w.heap.size, 1, none⟩ = some (.int .i64 0) ∧ w2.cell? ⟨w.heap.size, 2, none⟩ = some (.int .i64 0) ∧ w2.frozen? ⟨w.heap.size, 0, none⟩ = false ∧ w2.frozen? ⟨w.heap.size, 1, none⟩ = false ∧ w2.frozen? ⟨w.heap.size, 2, none⟩ = false := by
  have h : w2.heap[w.heap.size]? = some (.cells #[.string ⟨#[]⟩, .int .i64 0, .int .i64 0] 41 (0, 0)) := by
    rw [b.block w.heap.size (by simp)]
    show (w.heap.push _)[w.heap.size]? = _
    simp
  exact ⟨h, cell_of_heap h 0, cell_of_heap h 1, cell_of_heap h 2, frozen_of_heap h 0, frozen_of_heap h 1, frozen_of_heap h 2⟩
/-- What the first lookup leaves. -/
def FoundAt (y : Fx) (W : World) (X : Nat) (w' : World) : Prop := W.heap.size ≤ X ∧ Lx.FixBlk w' X y ∧ Below W.heap.size W w'
def stM (first : Int) (s : St) (B : Option Tok) (r : List Int × Int) : List Int × St := match B with | some o => ([], s.fail o.at_ 71) | none => (r.1, if r.2 = 0 then s else s.fail first 72)
set_option maxHeartbeats 8000000 in
theorem structure_any {C : Cfg} {p : Nat} {dp : Int} (hC : C.climb = climbL Lx.rightF) (hfs : C.fs.length ≤ 1000000) (hsm : Lx.Small C.fs) (first : Int) (ops : List Tok) (q : Option Addr) (m c : Nat) (s : St) (w0 : World)
    (h : PS C p dp s w0) (ho : ToksA w0 (.slice q m c) ops) (hm : ops.length = m) (hm7 : m ≤ 700) :
    Calls Tryz.prog 70 #[.pointer (some ⟨p, 0, none⟩), .int .i64 first, .slice q m c] w0 (IP C p dp (structM C first ops s) w0) := by
  obtain ⟨_, _, q2, c2, _, hF, _, _, hc2, -⟩ := h.cells
  have P0 := Lib.hid h
  have HO := Lib.hid ho
  have HM := Lib.hid hm
  have HF := Lib.hid hF
  have HC2 := Lib.hid hc2
  have HSM := Lib.hid hsm
  have HFS := Lib.hid hfs
  have hpl := h.lt
  have HPL := Lib.hid h.lt
  obtain ⟨N, hN⟩ : ∃ N, N = needF C ops := ⟨_, rfl⟩
  obtain ⟨BAD, hB⟩ : ∃ B, B = badOp C ops := ⟨_, rfl⟩
  have hS : structM C first ops s = stM first s BAD (climbL Lx.rightF N (ops.map Tok.text)) := by
    unfold structM stM
    rw [hB, hN, hC]
    cases badOp C ops <;> rfl
  rw [hS]
  have FN := Lib.hid (fold_drop (needS C) ops tok0)
  have FB := Lib.hid (bad_drop C ops tok0)
  have FT := Lib.hid (take_map Tok.text ops tok0)
  have HN := Lib.hid hN
  have HB := Lib.hid hB
  obtain ⟨i0, hi, hz0, hz1, hz2⟩ := Lx.infoFix
  have HI := Lib.hid (And.intro hi (And.intro hz0 (And.intro hz1 hz2)))
  obtain ⟨i9, hi9, hz90, hz91, hz92⟩ := infoX
  have HI9 := Lib.hid (And.intro hi9 (And.intro hz90 (And.intro hz91 hz92)))
  clear hi hz0 hz1 hz2 hi9 hz90 hz91 hz92 hN hB hS h ho hF hc2 hsm hfs
  go_enter Tryz.func70, Tryz.ntmps70
  go_wp2
  go_loopw [7, 8, 19] (fun s7 s8 s19 wr => ∃ (j n2 : Nat) (p1 p2 : Option Addr) (k1 k2 : Nat) (acc : List Fx), j ≤ m ∧ s19 = .int .i64 j ∧ s7 = .slice p1 j k1 ∧ s8 = .slice p2 n2 k2 ∧ n2 ≤ j ∧ acc.length = n2 ∧ XRow w0.heap.size wr (.slice p1 j k1) ((ops.take j).map Tok.text) ∧ Lx.FRow w0.heap.size wr (.slice p2 n2 k2) acc ∧ Below w0.heap.size w0 wr ∧ (ops.drop j).foldl (needS C) acc = N ∧ badOp C (ops.drop j) = BAD ∧ Hid (∀ f ∈ acc, f ∈ C.fs)) (fun _ _ s19 _ => m - (RowKit.intOf s19).toNat)
  case atStart => exact ⟨0, 0, none, none, 0, 0, [], Nat.zero_le _, rfl, rfl, rfl, Nat.le_refl _, rfl, XRow.nil _ _, Lx.FRow.nil _ _, Below.refl _ _, by rw [HN.out]; rfl, by rw [HB.out]; rfl, Lib.hid (by simp)⟩
  case round =>
    obtain ⟨wo, hwo⟩ : ∃ wo : World, wo = wr := ⟨_, rfl⟩
    subst hwo
    obtain ⟨j, n2, p1, p2, k1, k2, acc, hj, rfl, rfl, rfl, hn2, hal, hx, hr, hbel, hfo, hba, hac⟩ := hrel
    have HX := Lib.hid hx
    have HR := Lib.hid hr
    have HBL := Lib.hid hbel
    have HFO := Lib.hid hfo
    have HBA := Lib.hid hba
    have HAL := Lib.hid hal
    clear hx hr hfo hba hal
    by_cases hlt : j < m
    · obtain ⟨_, q', c', e, _, _, h4⟩ := HO.out
      obtain ⟨b, off, rfl, hb, hcc⟩ := h4 (by omega)
      simp only [Value.slice.injEq] at e
      obtain ⟨rfl, -, rfl⟩ := e
      have hk := Lx.CellsIn.tok (w := wo) (b := b) (off := off) (hcc.kept (hbel.block b hb)) j (by rw [HM.out]; exact hlt)
      have e1 : ops.getD j default = ops.getD j tok0 := by
        rw [List.getD_eq_getElem?_getD, List.getD_eq_getElem?_getD, List.getElem?_eq_getElem (by rw [HM.out]; exact hlt)]; rfl
      rw [e1] at hk
      have f1 := FN.out j (by rw [HM.out]; exact hlt) acc
      have f2 := FB.out j (by rw [HM.out]; exact hlt)
      have f3 := FT.out j (by rw [HM.out]; exact hlt)
      rw [HFO.out] at f1
      rw [HBA.out] at f2
      obtain ⟨t, ht⟩ : ∃ t, t = ops.getD j tok0 := ⟨_, rfl⟩
      rw [← ht] at hk f1 f2 f3
      obtain ⟨g0, g1, g2, g3⟩ := hk
      have F1 := Lib.hid f1
      have F2 := Lib.hid f2
      have F3 := Lib.hid f3
      have HCC := Lib.hid hcc
      have hlz : ((j : Int) < (m : Int)) := by omega
      have hC2 := (hbel.cell (p := ⟨p, 2, none⟩) hpl).trans HC2.out
      obtain ⟨y, hy⟩ : ∃ y, y = (find C.fs t.text).getD Lx.zf := ⟨_, rfl⟩
      obtain ⟨ob, hob⟩ : ∃ o, o = (find C.fs t.text).isSome := ⟨_, rfl⟩
      have FF : Hid (∀ W, Below w0.heap.size w0 W → Calls Tryz.prog 98 #[.slice q2 C.fs.length c2, .string t.text] W fun e w' => e = .returned (.tuple #[.agg #[.string y.op, .int .i64 y.level, .int .i64 y.side], .bool ob]) ∧ Below W.heap.size W w') := Lib.hid (fun W (hW : Below w0.heap.size w0 W) => by rw [hy, hob]; exact Lx.find_fix (.slice q2 C.fs.length c2) C.fs t.text W (slice_b HF.out hW) HFS.out)
      have HY := Lib.hid hy
      have HOB := Lib.hid hob
      clear hy hob
      clear f1 f2 f3 ht e1 h4 hcc
      obtain ⟨w1, hw1⟩ : ∃ w1, w1 = wo.alloc (.cells #[.int .i64 t.kind, .string t.text, .int .i64 t.num, .int .i64 t.at_] 45) := ⟨_, rfl⟩
      have b1 : Below wo.heap.size wo w1 := by rw [hw1]; exact (Below.refl _ _).alloc (Nat.le_refl _) _
      have x1 : w1.cell? ⟨wo.heap.size, 1, none⟩ = some (.string t.text) := by rw [hw1]; simp
      have x3 : w1.cell? ⟨wo.heap.size, 3, none⟩ = some (.int .i64 t.at_) := by rw [hw1]; simp
      have B1 := Lib.hid b1
      have W1 := Lib.hid (hbel.trans (b1.mono hbel.size))
      have h12 := (W1.out.cell (p := ⟨p, 2, none⟩) hpl).trans HC2.out
      have hlt1 : wo.heap.size < w1.heap.size := by rw [hw1]; simp
      have SS : Hid (∀ W, Below w1.heap.size w1 W → Below w1.heap.size w1 W ∧ W.cell? ⟨p, 2, none⟩ = some (.slice q2 C.fs.length c2) ∧ W.cell? ⟨wo.heap.size, 1, none⟩ = some (.string t.text)) := Lib.hid fun W hW => ⟨hW, (hW.cell (p := ⟨p, 2, none⟩) (Nat.lt_of_lt_of_le hpl W1.out.size)).trans h12, (hW.cell (p := ⟨wo.heap.size, 1, none⟩) hlt1).trans x1⟩
      have HW1 := Lib.hid hw1
      have HC := Lib.hid hC
      have HX1 := Lib.hid x1
      have HX3 := Lib.hid x3
      have HLT := Lib.hid hlt1
      have HWO := Lib.hid hbel
      clear hw1 b1 hbel hC2 hC x1 x3 h12 hlt1 hm
      go_wp2_with fail
      rw [← HW1.out]
      go_cut [11, 12] from 23 to 32 (fun s11 s12 wx => ∃ X, s11 = .pointer (some ⟨X, 0, none⟩) ∧ s12 = .bool ob ∧ FoundAt y w1 X wx)
      case first =>
        go_region_held3 (fun W => Below w1.heap.size w1 W ∧ W.cell? ⟨p, 2, none⟩ = some (.slice q2 C.fs.length c2) ∧ W.cell? ⟨wo.heap.size, 1, none⟩ = some (.string t.text)) (exact SS.out _ (by repeat' (first | assumption | exact Below.refl _ _ | apply Below.drew | (refine Below.alloc ?_ ?_ _) | (refine Below.setCell ?_ ?_ _) | (exact Below.size (by assumption)) | simp))) ((first
          | (go_at_call 98; refine (FF.out _ (below_next W1.out (by repeat' (first | assumption | exact Below.refl _ _ | apply Below.drew | (refine Below.alloc ?_ ?_ _) | (refine Below.setCell ?_ ?_ _) | (exact Below.size (by assumption)) | simp)))).mono ?_; rintro e wz ⟨rfl, bz⟩; (try (have zz := fz_kept bz; obtain ⟨zb, z0, z1, z2, y0, y1, y2⟩ := zz)); have bz' : Below w1.heap.size w1 wz := below_next (by repeat' (first | assumption | exact Below.refl _ _ | apply Below.drew | (refine Below.alloc ?_ ?_ _) | (refine Below.setCell ?_ ?_ _) | (exact Below.size (by assumption)) | simp)) bz)))
        all_goals
          go_wp2_with fail
          go_meet
          case rel =>
            first
              | exact ⟨w1.heap.size, rfl, rfl, Nat.le_refl _, Lx.FixBlk.store (f' := ⟨⟨#[]⟩, 0, 0⟩) zb y, ((bz'.setCell (Nat.le_refl _) _).setCell (Nat.le_refl _) _).setCell (Nat.le_refl _) _⟩
              | exact ⟨wz.heap.size, rfl, rfl, bz'.size, Lx.FixBlk.new wz y, bz'.alloc bz'.size _⟩
      case rest =>
        obtain ⟨X, rfl, rfl, hXl, hXf, hXb⟩ := hcut
        obtain ⟨w2, hw⟩ : ∃ w2 : World, w2 = wc := ⟨_, rfl⟩
        subst hw
        have b2 := below_next B1.out hXb
        have BB := Lib.hid b2
        have W2 := Lib.hid (below_next HWO.out b2)
        have XF := Lib.hid hXf
        have x1 := (hXb.cell (p := ⟨wo.heap.size, 1, none⟩) HLT.out).trans HX1.out
        have x3 := (hXb.cell (p := ⟨wo.heap.size, 3, none⟩) HLT.out).trans HX3.out
        have X2H := Lib.hid (HX.out.after b2)
        have R2H := Lib.hid (HR.out.after b2)
        clear hXl hXf hXb b2
        cases hfd : find C.fs t.text with
        | none =>
          have e1 : ob = false := by rw [HOB.out, hfd]; rfl
          have eB : BAD = some t := by have := F2.out; rw [hfd] at this; simpa using this
          have EB := Lib.hid eB
          have FL := Lib.hid (fail_any C p dp s t.at_ 71 w2 (P0.out.below W2.out))
          clear hfd HOB eB FF
          subst e1
          go_wp2_with fail
          refine FL.out.mono ?_
          rintro e w3 ⟨rfl, hP, hB⟩
          have P3 := Lib.hid hP
          have B3 := Lib.hid hB
          clear hP hB
          go_wp2_with fail
          go_ret
          rw [EB.out]
          exact ⟨_, rfl, Lx.IntsAt.nil _, P3.out, (Bar.of_below W2.out).trans B3.out⟩
        | some f =>
          have e1 : ob = true := by rw [HOB.out, hfd]; rfl
          have e2 : y = f := by rw [HY.out, hfd]; rfl
          have eB : BAD = badOp C (ops.drop (j + 1)) := by have := F2.out; rw [hfd] at this; simpa using this
          have EB := Lib.hid eB
          have HFD := Lib.hid hfd
          clear hfd HOB HY eB FF F2
          subst e1
          subst e2
          have hlen : ((ops.take j).map Tok.text).length = j := by rw [List.length_map, List.length_take, HM.out]; omega
          have BA : Hid (Below w2.heap.size w2 (w2.alloc (.cells #[.string t.text] 9))) := Lib.hid ((Below.refl _ _).alloc (Nat.le_refl _) _)
          have own := X2H.out.after BA.out
          unfold XRow at own
          rw [hlen] at own
          have OWN := Lib.hid own
          have HLEN := Lib.hid hlen
          have hmax : j + 1 ≤ maxLen := by unfold maxLen; omega
          have hbyt : (j + 1) * 16 ≤ 140737488355328 := by omega
          have HMX := Lib.hid (And.intro hmax hbyt)
          clear own hlen hmax hbyt
          have r2 := R2H.out.after BA.out
          have HAP := Lib.hid (rows_apart OWN.out r2 (by decide))
          have R2A := Lib.hid r2
          have fx1 : some wo.heap.size ≠ (Value.slice p1 j k1).ownBlock := own_far HX.out (Nat.le_refl _)
          have hxa := (BA.out.block X (Lx.FixBlk.lt XF.out)).trans XF.out
          have fx2 : some X ≠ (Value.slice p1 j k1).ownBlock := far_block OWN.out hxa (by decide)
          have HF12 := Lib.hid (And.intro fx1 fx2)
          have HXA : Hid (Lx.FixBlk (w2.alloc (.cells #[.string t.text] 9)) X y ∧ X < (w2.alloc (.cells #[.string t.text] 9)).heap.size) := Lib.hid ⟨hxa, Lx.FixBlk.lt hxa⟩
          have HX1A : Hid ((w2.alloc (.cells #[.string t.text] 9)).cell? ⟨wo.heap.size, 1, none⟩ = some (.string t.text)) := Lib.hid ((BA.out.cell (p := ⟨wo.heap.size, 1, none⟩) (World.block_lt_of_cell? _ _ x1)).trans x1)
          clear r2 fx1 fx2 hxa x3
          go_wp2_with (at_builtin; refine wpList_append_any _ rfl _ _ 67 rfl w0.heap.size 9 i9 (.string ByteArray.empty) 1 16 Tryz.underlying67 HI9.out.1 HI9.out.2.1 HI9.out.2.2.1 HI9.out.2.2.2 rfl (by decide) (.slice p1 j k1) j (Lx.strCells ((ops.take j).map Tok.text)) rfl OWN.out (some ⟨w2.heap.size, 0, none⟩) 1 1 [.string t.text] rfl rfl (fun _ => ⟨_, rfl, str_lit w2 t.text⟩) (str_one t.text) HMX.out.1 HMX.out.2 (Nat.le_trans W2.out.size BA.out.size) ?_; intro p' cap' w3 hown hgrow hblk; have HO := Lib.hid hown; have HGr := Lib.hid hgrow; have x31 := hgrow.cell HX1A.out HF12.out.1; clear hown hgrow hblk)
          have W3 := Lib.hid ((W2.out.trans (BA.out.mono W2.out.size)).grown HGr.out (Nat.le_trans W2.out.size BA.out.size) fun g hg => (World.ownsRow.there OWN.out hg).1)
          have R3 := Lib.hid (World.ownsRow.kept R2A.out HGr.out HAP.out)
          have X3 : Hid (Lx.FixBlk w3 X y) := Lib.hid ((HGr.out.block X HXA.out.2 HF12.out.2).trans HXA.out.1)
          have N3 := Lib.hid (XRow.put HLEN.out HO.out)
          have G := Lx.find_fix (.slice p2 n2 k2) acc t.text w3 (Lx.SliceAt.of_owns R3.out) (by rw [HAL.out]; omega)
          obtain ⟨z, hz⟩ : ∃ z, z = (find acc t.text).getD Lx.zf := ⟨_, rfl⟩
          unfold Lx.ORet at G
          rw [← hz] at G
          unfold Lx.fxV at G
          have G := Lib.hid G
          clear hz
          refine (show Calls _ _ _ _ _ from G.out).mono ?_
          rintro e w4 ⟨rfl, b4⟩
          have W4 := Lib.hid (below_next W3.out b4)
          have N4 := Lib.hid (N3.out.after b4)
          have R4 := Lib.hid (World.ownsRow.keep R3.out fun g hg => b4.block g (World.ownsRow.there R3.out hg).2)
          have X4 := Lib.hid (Lx.FixBlk.below X3.out b4 (Lx.FixBlk.lt X3.out))
          have BZ : Hid (Below w4.heap.size w4 (w4.alloc (.cells #[.string z.op, .int .i64 z.level, .int .i64 z.side] 41))) := Lib.hid ((Below.refl _ _).alloc (Nat.le_refl _) _)
          clear b4 x31 x1
          cases hfa : find acc t.text with
          | some z0 =>
            have en : N = (ops.drop (j + 1)).foldl (needS C) acc := by
              rw [F1.out]
              congr 1
              unfold needS
              rw [HFD.out, hfa]
              rfl
            have EN := Lib.hid en
            clear hfa en
            simp only [Option.isSome_some]
            go_wp2_with fail
            go_roundw
            case rel => exact ⟨j + 1, n2, p', p2, cap', k2, acc, by omega, by go_num, rfl, rfl, by omega, HAL.out, by rw [F3.out]; exact N4.out.after BZ.out, World.ownsRow.keep R4.out fun g hg => BZ.out.block g (World.ownsRow.there R4.out hg).2, W4.out.alloc W4.out.size _, EN.out.symm, EB.out.symm, hac⟩
            case measure => simp [RowKit.intOf]; omega
          | none =>
            have en : N = (ops.drop (j + 1)).foldl (needS C) (acc ++ [y]) := by
              rw [F1.out]
              congr 1
              unfold needS
              rw [HFD.out, hfa]
              rfl
            have EN := Lib.hid en
            clear hfa en
            simp only [Option.isSome_none]
            have BY : Hid (Below w4.heap.size w4 ((w4.alloc (.cells #[.string z.op, .int .i64 z.level, .int .i64 z.side] 41)).alloc (.cells #[.string y.op, .int .i64 y.level, .int .i64 y.side] 41))) := Lib.hid (((Below.refl _ _).alloc (Nat.le_refl _) _).alloc (by simp) _)
            obtain ⟨y0, y1, y2⟩ := Lx.FixBlk.cells (Lx.FixBlk.below X4.out BZ.out (Lx.FixBlk.lt X4.out))
            have own := World.ownsRow.keep R4.out fun g hg => BY.out.block g (World.ownsRow.there R4.out hg).2
            rw [HAL.out] at own
            have nm := N4.out.after BY.out
            have OWN2 := Lib.hid own
            have HAP2 := Lib.hid (rows_apart own nm (by decide))
            have N5 := Lib.hid nm
            have hmax : n2 + 1 ≤ maxLen := by unfold maxLen; omega
            have hbyt : (n2 + 1) * 32 ≤ 140737488355328 := by omega
            have HM2 := Lib.hid (And.intro hmax hbyt)
            have HJM := Lib.hid (show j < m ∧ n2 ≤ j from ⟨hlt, hn2⟩)
            clear own nm hmax hbyt
            go_wp2_with (at_builtin; refine wpList_append_any _ rfl _ _ 22 rfl w0.heap.size 41 i0 Lx.zeroFix 3 32 Tryz.underlying22 HI.out.1 HI.out.2.1 HI.out.2.2.1 HI.out.2.2.2 rfl (by decide) (.slice p2 n2 k2) n2 (Lx.fxCells acc) rfl OWN2.out (some ⟨w4.heap.size + 1, 0, none⟩) 1 1 (Fx.cells y) rfl rfl (fun _ => ⟨_, rfl, Lx.fcells_two _ _ _ y⟩) (Lx.fcells_one _) HM2.out.1 HM2.out.2 (Nat.le_trans W4.out.size BY.out.size) ?_; intro p9 cap9 w5 hown hgrow hblk; have HO2 := Lib.hid hown; have HG2 := Lib.hid hgrow; clear hown hgrow hblk)
            go_roundw
            case rel => exact ⟨j + 1, n2 + 1, p', p9, cap', cap9, acc ++ [y], by have := HJM.out; omega, by go_num, rfl, rfl, by have := HJM.out; omega, by simp [HAL.out], by rw [F3.out]; exact World.ownsRow.kept N5.out HG2.out HAP2.out, Lx.FRow.put HAL.out HO2.out, (W4.out.trans (BY.out.mono W4.out.size)).grown HG2.out (Nat.le_trans W4.out.size BY.out.size) fun g hg => (World.ownsRow.there OWN2.out hg).1, EN.out.symm, EB.out.symm, Lib.hid fun f hf => by
              rcases List.mem_append.1 hf with h | h
              · exact hac.out f h
              · rw [List.mem_singleton.1 h]
                exact (find_mem HFD.out).1⟩
            case measure => have := HJM.out; simp [RowKit.intOf]; omega
    · obtain rfl : j = m := by omega
      have hlen : ((ops.take j).map Tok.text).length = j := by rw [List.length_map, List.length_take, HM.out]; omega
      have et : (ops.take j).map Tok.text = ops.map Tok.text := by rw [List.take_of_length_le (by rw [HM.out]; omega)]
      have ed : ops.drop j = [] := List.drop_eq_nil_of_le (by rw [HM.out]; omega)
      have en : acc = N := by have := HFO.out; rw [ed] at this; exact this
      have eb : BAD = none := by have := HBA.out; rw [ed] at this; exact this.symm
      subst en
      have CL := Lx.climbs_any (.slice p2 n2 k2) (.slice p1 j k1) acc (ops.map Tok.text) wo (Lx.SliceAt.of_owns HR.out) (by rw [← et]; exact HX.out.at) (by rw [HAL.out]; omega) (by rw [← et, hlen]; omega) (fun f hf => HSM.out f (hac.out f hf))
      unfold Lx.LRet at CL
      obtain ⟨cr, hcr⟩ : ∃ r, r = climbL Lx.rightF acc (ops.map Tok.text) := ⟨_, rfl⟩
      rw [← hcr] at CL ⊢
      have CL := Lib.hid CL
      have EB := Lib.hid eb
      have HCR := Lib.hid hcr
      have P1 := Lib.hid (P0.out.below hbel)
      have W1 := Lib.hid hbel
      obtain ⟨c0, c1⟩ := cr
      clear hlen et ed eb hcr hbel hC
      go_wp2_with fail
      refine (show Calls _ _ _ _ _ from CL.out).mono ?_
      rintro e w2 ⟨v, rfl, hv, b2⟩
      have V2 := Lib.hid hv
      have P2 := Lib.hid (P1.out.below b2)
      have W2 := Lib.hid (below_next W1.out b2)
      clear hv b2
      by_cases hz : c1 = 0
      · subst hz
        go_wp2_with fail
        go_ret
        rw [EB.out, ← HCR.out]
        exact ⟨v, rfl, V2.out, P2.out, .of_below W2.out⟩
      · have hz2 : (c1 != 0) = true := by simp [bne, hz]
        have FL := Lib.hid (fail_any C p dp s first 72 w2 P2.out)
        have HZ := Lib.hid hz
        clear hz
        go_wp2_with fail
        refine FL.out.mono ?_
        rintro e w3 ⟨rfl, hP, hB⟩
        have P3 := Lib.hid hP
        have B3 := Lib.hid hB
        have c0e : c0 = [] := by
          rcases climb_cases Lx.rightF acc (ops.map Tok.text) with h | ⟨hs, cc, _, _, h⟩
          · rw [← HCR.out] at h; exact h
          · rw [← HCR.out] at h; simp only [Prod.mk.injEq] at h; exact absurd h.2 HZ.out
        have V3 := Lib.hid (ints_none (w' := w3) V2.out c0e)
        clear hP hB
        go_wp2_with fail
        go_ret
        rw [EB.out, ← HCR.out]
        refine ⟨v, rfl, V3.out, ?_, (Bar.of_below W2.out).trans B3.out⟩
        show PS C p dp (if c1 = 0 then s else s.fail first 72) w3
        rw [if_neg HZ.out]
        exact P3.out
end Go.Proofs.YtggjckalmlploaaGreatDoor
