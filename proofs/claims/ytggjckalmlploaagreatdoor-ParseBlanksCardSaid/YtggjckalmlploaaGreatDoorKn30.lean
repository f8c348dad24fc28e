/- Texts of this seat, one behind the other: ParL, ParP. -/
import Derived.Test.YtggjckalmlploaaGreatDoorKn29
import Derived.Test.YtggjckalmlploaaGreatDoorKn19
/- Rows of slices of nodes that a call makes of its own. -/
set_option maxRecDepth 100000
namespace Go.Proofs.YtggjckalmlploaaGreatDoor
open Go.Shelf Go.RowKit Go.Lib Go.Proofs.TreeMath Go.Proofs.LexMath Go.Proofs.FixMath Go.Proofs.ParMath
def LRow (B : Nat) (w : World) (v : Value) (Ls : List (List Nd)) : Prop := ∃ vs : List Value, w.ownsRow B 25 1 v Ls.length vs ∧ (∀ i, i < Ls.length → NodesAt w (vs.getD i default) (Ls.getD i [])) ∧ (∀ i, i < Ls.length → (Ls.getD i []).length ≠ 0 → ∀ g, v.ownBlock = some g → Off g (vs.getD i default)) ∧ (∀ i, i < Ls.length → Fresh B (vs.getD i default))
theorem LRow.nil (B : Nat) (w : World) : LRow B w (.slice none 0 0) [] := ⟨[], World.ownsRow_nil _ _ _ _, fun i h => by simp at h, fun i h => by simp at h, fun i h => by simp at h⟩
theorem LRow.mono {B B' : Nat} {w : World} {v : Value} {Ls : List (List Nd)} (h : LRow B w v Ls) (hB : B' ≤ B) : LRow B' w v Ls := by
  obtain ⟨vs, h1, h2, h3, h4⟩ := h
  exact ⟨vs, World.ownsRow.base h1 hB, h2, h3, fun i hi => (h4 i hi).mono hB⟩
theorem LRow.form {B : Nat} {w : World} {v : Value} {Ls : List (List Nd)} (h : LRow B w v Ls) : ∃ q c, v = .slice q Ls.length c := by
  obtain ⟨vs, h1, _⟩ := h
  rcases h1.2 with ⟨rfl, e⟩ | ⟨g, cap, cur, rfl, _⟩
  · exact ⟨none, 0, by rw [e]⟩
  · exact ⟨_, _, rfl⟩
theorem LRow.at {B : Nat} {w : World} {v : Value} {Ls : List (List Nd)} (h : LRow B w v Ls) : ListsAt w v Ls := by
  obtain ⟨vs, h1, h2, _⟩ := h
  exact ⟨vs, SliceAt.of_owns h1, h2⟩
theorem LRow.fresh {B : Nat} {w : World} {v : Value} {Ls : List (List Nd)} (h : LRow B w v Ls) : Fresh B v := fun b o n c e => by
  obtain ⟨vs, h1, _⟩ := h
  exact (World.ownsRow.there h1 (by rw [e]; rfl)).1
theorem LRow.bar {p B : Nat} {w w' : World} {v : Value} {Ls : List (List Nd)} (h : LRow B w v Ls) (hp : p < B) (hn : NoStr p w) (b : Bar p w w') : LRow B w' v Ls := by
  obtain ⟨vs, h1, h2, h3⟩ := h
  refine ⟨vs, World.ownsRow.keep h1 fun g hg => ?_, fun i hi => (h2 i hi).bar hn b, h3⟩
  have := World.ownsRow.there h1 hg
  exact b.block g this.2 (by omega)
theorem LRow.below {B : Nat} {w w' : World} {v : Value} {Ls : List (List Nd)} (h : LRow B w v Ls) (b : Below w.heap.size w w') : LRow B w' v Ls := by
  obtain ⟨vs, h1, h2, h3⟩ := h
  exact ⟨vs, World.ownsRow.keep h1 fun g hg => b.block g (World.ownsRow.there h1 hg).2, fun i hi => (h2 i hi).below b, h3⟩
theorem fresh_off {B g : Nat} {u : Value} (h : Fresh B u) (hg : g < B) : Off g u := fun b o n c e => by have := h b o n c e; omega
theorem nodes_off {w : World} {u : Value} {ns : List Nd} (h : NodesAt w u ns) (hl : ns.length ≠ 0) : Off w.heap.size u := by
  obtain ⟨_, q, c, rfl, _, _, h4⟩ := h
  obtain ⟨b, o, rfl, hb, _⟩ := h4 hl
  intro b' o' n' c' e
  simp only [Value.slice.injEq, Option.some.injEq, Addr.mk.injEq] at e
  omega
theorem infoNodes : ∃ i, Tryz.prog.info? 25 = some i ∧ i.zero = some (.slice none 0 0) ∧ i.size = 1 ∧ i.bytes = 24 := info_of' (by kernel_rfl)
/-- A view in a block that does not grow. -/
theorem slice_grown {w w' : World} {size n : Nat} {v : Value} {cs : List Value} {row : Option Nat} (h : SliceAt w size v n cs) (g : w.grownBy w' row) (hne : ∀ k, row = some k → n ≠ 0 → Off k v) : SliceAt w' size v n cs := by
  obtain ⟨h1, q, cap, rfl, h2, h3, h4⟩ := h
  refine ⟨h1, q, cap, rfl, h2, h3, fun hn => ?_⟩
  obtain ⟨bk, off, rfl, hb, hc⟩ := h4 hn
  exact ⟨bk, off, rfl, Nat.lt_of_lt_of_le hb g.size, hc.kept (g.block bk hb fun e => hne bk e.symm hn bk off n cap rfl rfl)⟩
/-- One more is appended. -/
theorem wpList_push {ops : Array Oper} {rest : List Oper} {o : Oper} {a : Act} {w : World} {Q : Exit → Act → World → Prop} (hgd : o.guard = none) (s x : Operand)
    (ho : o.op = .call { callee := .builtin .append, args := #[s, x], argTypes := #[38, 38] }) (B : Nat) (v : Value) (Ls : List (List Nd)) (hs : a.eval s = v) (hrow : LRow B w v Ls) (b : Nat) (hx : a.eval x = .slice (some ⟨b, 0, none⟩) 1 1)
    (u : Value) (ns : List Nd) (hu : w.cell? ⟨b, 0, none⟩ = some u) (hn : NodesAt w u ns) (hoff : ns.length ≠ 0 → ∀ g, v.ownBlock = some g → Off g u) (hfr : Fresh B u) (hlen : Ls.length ≤ 100000) (hB : B ≤ w.heap.size)
    (h : ∀ p' cap' w', LRow B w' (.slice p' (Ls.length + 1) cap') (Ls ++ [ns]) → Below B w w' → wpList Tryz.prog ops Q rest (a.put o.dst (.slice p' (Ls.length + 1) cap')) w') : wpList Tryz.prog ops Q (o :: rest) a w := by
  obtain ⟨i0, hi, hz, hsz, hby⟩ := infoNodes
  obtain ⟨vs, h1, h2, h3, h5⟩ := hrow
  have hu1 : u.oneCell' = true := by
    obtain ⟨_, q, c, rfl, _⟩ := hn
    rfl
  refine wpList_append_any w hgd s x 38 ho B 25 i0 (.slice none 0 0) 1 24 Tryz.underlying38 hi hz hsz hby rfl (by decide) v Ls.length vs hs h1 (some ⟨b, 0, none⟩) 1 1 [u] hx rfl (fun _ => ⟨_, rfl, fun j y hj => ?_⟩) (fun y hy => ?_) (by unfold maxLen; omega) (by omega) hB ?_
  · obtain rfl : j = 0 := by
      rcases j with _ | j
      · rfl
      · simp at hj
    simp only [List.getElem?_cons_zero, Option.some.injEq] at hj
    rw [Go.WideShapes.add_plain, ← hj]
    exact hu
  · simp only [List.mem_singleton] at hy
    rw [hy]; exact hu1
  · intro p' cap' w' hown hgrow hblk
    have hvl : vs.length = Ls.length := by have := h1.1; omega
    have hbel : Below B w w' := (Below.refl B w).grown hgrow hB fun k hk => (World.ownsRow.there h1 hk).1
    refine h p' cap' w' ⟨vs ++ [u], by simpa using hown, fun i hi => ?_, fun i hi h0 g hg => ?_, fun i hi => ?_⟩ hbel
    · rw [List.length_append, List.length_singleton] at hi
      by_cases hil : i < Ls.length
      · have e1 : (vs ++ [u]).getD i default = vs.getD i default := by rw [List.getD_eq_getElem?_getD, List.getElem?_append_left (by omega), ← List.getD_eq_getElem?_getD]
        have e2 : (Ls ++ [ns]).getD i [] = Ls.getD i [] := by rw [List.getD_eq_getElem?_getD, List.getElem?_append_left hil, ← List.getD_eq_getElem?_getD]
        rw [e1, e2]
        exact slice_grown (h2 i hil) hgrow fun k hk h0 => h3 i hil h0 k hk
      · obtain rfl : i = Ls.length := by omega
        have e1 : (vs ++ [u]).getD Ls.length default = u := by rw [List.getD_eq_getElem?_getD, List.getElem?_append_right (by omega), hvl]; simp
        have e2 : (Ls ++ [ns]).getD Ls.length [] = ns := by rw [List.getD_eq_getElem?_getD, List.getElem?_append_right (Nat.le_refl _)]; simp
        rw [e1, e2]
        exact slice_grown hn hgrow fun k hk h0 => hoff h0 k hk
    · rw [List.length_append, List.length_singleton] at hi
      rw [hg] at hblk
      have hcase : v.ownBlock = some g ∨ g = w.heap.size := by
        rcases hblk with e | e
        · exact .inl e.symm
        · exact .inr (Option.some.inj e)
      have key : ∀ y ms, NodesAt w y ms → ms.length ≠ 0 → (∀ k, v.ownBlock = some k → Off k y) → Off g y := fun y ms hy h0 hk => by
        rcases hcase with e | rfl
        · exact hk g e
        · exact nodes_off hy h0
      by_cases hil : i < Ls.length
      · have e1 : (vs ++ [u]).getD i default = vs.getD i default := by rw [List.getD_eq_getElem?_getD, List.getElem?_append_left (by omega), ← List.getD_eq_getElem?_getD]
        have e2 : (Ls ++ [ns]).getD i [] = Ls.getD i [] := by rw [List.getD_eq_getElem?_getD, List.getElem?_append_left hil, ← List.getD_eq_getElem?_getD]
        rw [e2] at h0
        rw [e1]
        exact key _ _ (h2 i hil) h0 (h3 i hil h0)
      · obtain rfl : i = Ls.length := by omega
        have e1 : (vs ++ [u]).getD Ls.length default = u := by rw [List.getD_eq_getElem?_getD, List.getElem?_append_right (by omega), hvl]; simp
        have e2 : (Ls ++ [ns]).getD Ls.length [] = ns := by rw [List.getD_eq_getElem?_getD, List.getElem?_append_right (Nat.le_refl _)]; simp
        rw [e2] at h0
        rw [e1]
        exact key _ _ hn h0 (hoff h0)
    · rw [List.length_append, List.length_singleton] at hi
      by_cases hil : i < Ls.length
      · have e1 : (vs ++ [u]).getD i default = vs.getD i default := by rw [List.getD_eq_getElem?_getD, List.getElem?_append_left (by omega), ← List.getD_eq_getElem?_getD]
        rw [e1]
        exact h5 i hil
      · obtain rfl : i = Ls.length := by omega
        have e1 : (vs ++ [u]).getD Ls.length default = u := by rw [List.getD_eq_getElem?_getD, List.getElem?_append_right (by omega), hvl]; simp
        rw [e1]
        exact hfr
/-- One's place in such a row. -/
theorem LRow.get {B : Nat} {w : World} {q : Option Addr} {n c : Nat} {Ls : List (List Nd)} (h : LRow B w (.slice q n c) Ls) (i : Nat) (hi : i < Ls.length) : ∃ b u, q = some ⟨b, 0, none⟩ ∧ w.cell? ⟨b, i, none⟩ = some u ∧ NodesAt w u (Ls.getD i []) ∧ Fresh B u := by
  obtain ⟨vs, h1, h2, _, h5⟩ := h
  rcases h1.2 with ⟨_, h0⟩ | ⟨g, cap, cur, hv, _⟩
  · omega
  · obtain ⟨_, q', c', e, _, _, h4⟩ := SliceAt.of_owns h1
    simp only [Value.slice.injEq] at hv e
    obtain ⟨rfl, _, _⟩ := hv
    obtain ⟨b, off, e2, _, hc⟩ := h4 (by omega)
    rw [← e.1] at e2
    simp only [Option.some.injEq, Addr.mk.injEq] at e2
    obtain ⟨rfl, rfl, _⟩ := e2
    refine ⟨g, _, rfl, ?_, h2 i hi, h5 i hi⟩
    have := hc i (vs.getD i default) (by rw [List.getD_eq_getElem?_getD, List.getElem?_eq_getElem (by have := h1.1; omega)]; rfl)
    simpa using this
/-- A literal of one. -/
theorem LRow.lit {B : Nat} {w : World} {u : Value} {ns : List Nd} (h : NodesAt w u ns) (hf : Fresh B u) (hB : B ≤ w.heap.size) : LRow B (w.alloc (.cells #[u] 25)) (.slice (some ⟨w.heap.size, 0, none⟩) 1 1) [ns] := by
  refine ⟨[u], owns_lit w B u 25 hB, fun i hi => ?_, fun i hi h0 g hg => ?_, fun i hi => ?_⟩
  · obtain rfl : i = 0 := by simpa using hi
    exact NodesAt.below h (lit_below w _)
  · obtain rfl : i = 0 := by simpa using hi
    have hgs : w.heap.size = g := by simpa [Value.ownBlock] using hg
    rw [← hgs]
    exact nodes_off h h0
  · obtain rfl : i = 0 := by simpa using hi
    exact hf
end Go.Proofs.YtggjckalmlploaaGreatDoor
/- The parser: what a rule says. -/
set_option maxRecDepth 100000
namespace Go.Proofs.YtggjckalmlploaaGreatDoor
open Go.Shelf Go.RowKit Go.Lib Go.Proofs.TreeMath Go.Proofs.LexMath Go.Proofs.FixMath Go.Proofs.ParMath
def EOK (C : Cfg) (p : Nat) (dp : Int) (f : Nat) (F : Par) : Prop := ∀ s W, PS C p dp s W → Calls Tryz.prog f #[.pointer (some ⟨p, 0, none⟩)] W (NP C p dp (F s) W)
/-- A rule's words. -/
structure Rule (x : ByteArray) (ws : List ByteArray) : Prop where
  size : x.size < 1000
  ascii : ∀ (j : Nat) b, x.data.toList[j]? = some b → b.toNat < 128
  fields : (Lib.fields x.data.toList).map (fun l => Value.string ⟨l.toArray⟩) = ws.map Value.string
  len : ws.length ≤ 50
theorem fields_any (x : ByteArray) (ws : List ByteArray) (hx : Rule x ws) (w : World) (hT : Tab w) : Calls Tryz.prog 87 #[.string x] w fun e w' => e = .returned (.slice (some ⟨w.heap.size, 0, none⟩) ws.length ws.length) ∧ w' = w.alloc (.cells (ws.map Value.string).toArray 9) := by
  have h := Any.strings_Fields_core fieldsLays (by kernel_rfl) x w (by have := hx.size; omega) hx.ascii hT
  refine h.mono ?_
  rintro e w' ⟨rfl, rfl⟩
  have hl : (Lib.fields x.data.toList).length = ws.length := by
    have := congrArg List.length hx.fields
    simpa using this
  rw [hl, hx.fields]
  exact ⟨rfl, rfl⟩
set_option maxHeartbeats 4000000 in
theorem parts_any (C : Cfg) (p : Nat) (dp : Int) (E P : Par) (hE : EOK C p dp 17 E) (hP : EOK C p dp 89 P) (x : ByteArray) (ws : List ByteArray) (hx : Rule x ws) (s : St) (w0 : World) (h : PS C p dp s w0) :
    Calls Tryz.prog 65 #[.pointer (some ⟨p, 0, none⟩), .string x] w0 fun e w' => ∃ kv, e = .returned (.tuple #[.string (parts0 C E P ws s).1.1, kv]) ∧ LRow w0.heap.size w' kv (parts0 C E P ws s).1.2 ∧ PS C p dp (parts0 C E P ws s).2 w' ∧ Bar p w0 w' := by
  have P0 := Lib.hid h
  have HE := Lib.hid hE
  have HPp := Lib.hid hP
  have FL := Lib.hid (fields_any x ws hx w0 h.tab)
  have hlen := hx.len
  obtain ⟨R, hR⟩ : ∃ R, R = parts0 C E P ws s := ⟨_, rfl⟩
  rw [← hR]
  have HR := Lib.hid hR
  clear h hE hP hx hR
  go_enter Tryz.func65, Tryz.ntmps65
  go_wp2_with fail
  refine FL.out.mono ?_
  rintro e w1 ⟨rfl, rfl⟩
  obtain ⟨w1, hw1⟩ : ∃ w1 : World, w1 = w0.alloc (.cells (ws.map Value.string).toArray 9) := ⟨_, rfl⟩
  rw [← hw1]
  have hb1 : Below w0.heap.size w0 w1 := by rw [hw1]; exact lit_below _ _
  have hwd : ∀ j, j < ws.length → w1.cell? ⟨w0.heap.size, j, none⟩ = some (.string (ws.getD j default)) := fun j hj => by
    rw [hw1]
    have := lit_cells w0 (ws.map Value.string).toArray 9 j (.string (ws.getD j default)) (by
      rw [List.getD_eq_getElem?_getD, List.getElem?_eq_getElem hj]
      simp [List.getElem?_eq_getElem hj])
    simpa using this
  have hsz : w1.heap.size = w0.heap.size + 1 := by rw [hw1]; simp
  have P1 := Lib.hid (P0.out.below hb1)
  have B1 := Lib.hid (Bar.of_below (p := p) hb1)
  have hpl := P0.out.lt
  have WD := Lib.hid hwd
  clear hwd hw1 hb1
  go_wp2_with fail
  go_loopw [4, 5, 7, 11] (fun s4 s5 _ s11 wr => ∃ (j : Nat) (nm : ByteArray) (kids : List (List Nd)) (s' : St) (kv : Value), j ≤ ws.length ∧ s4 = .string nm ∧ s5 = kv ∧ s11 = .int .i64 j ∧ LRow (w0.heap.size + 1) wr kv kids ∧ PS C p dp s' wr ∧ Bar p w1 wr ∧ R = partsM C E P (ws.drop j) nm kids s' ∧ kids.length ≤ j) (fun _ _ _ s11 _ => match s11 with | .int _ m => ws.length - m.toNat | _ => 0)
  case atStart => exact ⟨0, ⟨#[]⟩, [], s, _, Nat.zero_le _, rfl, rfl, rfl, LRow.nil _ _, P1.out, Bar.refl _ _, HR.out, Nat.le_refl _⟩
  case round =>
    obtain ⟨wo, hwo⟩ : ∃ wo : World, wo = wr := ⟨_, rfl⟩
    subst hwo
    obtain ⟨j, nm, kids, s', kv, hj, rfl, rfl, rfl, hrow, hPo, hBo, hRo, hkl⟩ := hrel
    by_cases hjn : j < ws.length
    · have hjz : ((j : Int) < (ws.length : Int)) := by omega
      have hcell : wo.cell? ⟨w0.heap.size, j, none⟩ = some (.string (ws.getD j default)) := by
        rw [hBo.cell (a := ⟨w0.heap.size, j, none⟩) (by show w0.heap.size < w1.heap.size; omega) (by show w0.heap.size ≠ p; omega)]
        exact WD.out j hjn
      have hdr : ws.drop j = ws.getD j default :: ws.drop (j + 1) := by
        rw [List.getD_eq_getElem?_getD, List.getElem?_eq_getElem hjn, List.drop_eq_getElem_cons hjn]; rfl
      rw [hdr] at hRo
      generalize ws.getD j default = y at hcell hRo
      have hSz := Nat.le_trans (Nat.le_of_eq hsz.symm) hBo.size
      obtain ⟨q, c, rfl⟩ := hrow.form
      generalize hkn : kids.length = kn at *
      have ROW := Lib.hid hrow
      have PO := Lib.hid hPo
      have BO := Lib.hid hBo
      have RO := Lib.hid hRo
      clear hrow hPo hBo hRo hdr
      by_cases y1 : y = wBind
      · have RO1 : Hid (R = partsM C E P (ws.drop (j + 1)) (bindM C s').1 kids (bindM C s').2) := Lib.hid (by rw [RO.out, y1]; rfl)
        have BI := Lib.hid (bind_any C p dp s' wo PO.out)
        subst y1
        clear RO
        unfold wBind at hcell
        go_wp2_with fail
        refine BI.out.mono ?_
        rintro e w2 ⟨nm2, hn2, rfl, hP2, hB2⟩
        have N2 := Lib.hid hn2
        have P2 := Lib.hid hP2
        have B2 := Lib.hid (BO.out.trans hB2)
        have ROW2 := Lib.hid (ROW.out.bar (by omega) PO.out.noStr hB2)
        clear hn2 hP2 hB2
        go_wp2_with fail
        go_roundw
        case rel => exact ⟨j + 1, nm2, kids, _, _, by omega, rfl, rfl, by first | rfl | simp, ROW2.out, P2.out, B2.out, by rw [RO1.out, N2.out], by omega⟩
        case measure => simp; omega
      · have yl1 : (y.toList == [98, 105, 110, 100]) = false := by rw [show ([98, 105, 110, 100] : List UInt8) = (⟨#[98, 105, 110, 100]⟩ : ByteArray).toList from by rw [ByteArray.toList_eq], txt_eq]; exact decide_eq_false y1
        by_cases y2 : y = wExpr
        · have RO1 : Hid (R = partsM C E P (ws.drop (j + 1)) nm (kids ++ [(E s').1]) (E s').2) := Lib.hid (by rw [RO.out, y2]; rfl)
          have CI := Lib.hid (HE.out s' wo PO.out)
          subst y2
          clear RO
          unfold wExpr at hcell yl1
          go_wp2_with fail
          refine CI.out.mono ?_
          rintro e w2 ⟨v2, rfl, hv2, hfr2, hP2, hB2⟩
          obtain ⟨q2, n2, c2, rfl⟩ : ∃ q n c, v2 = .slice q n c := by obtain ⟨_, q, c, e, _⟩ := hv2; exact ⟨q, _, c, e⟩
          have P2 := Lib.hid hP2
          have B2 := Lib.hid (BO.out.trans hB2)
          have V2 := Lib.hid (hv2.below (lit_below w2 (.cells #[.slice q2 n2 c2] 25)))
          have ROW2 := Lib.hid ((ROW.out.bar (by omega) PO.out.noStr hB2).below (lit_below w2 (.cells #[.slice q2 n2 c2] 25)))
          have OFF := Lib.hid (show ∀ g, (Value.slice q kn c).ownBlock = some g → Off g (Value.slice q2 n2 c2) from fun g hg => by
            obtain ⟨vs, hh, _⟩ := ROW.out
            exact fresh_off hfr2 (World.ownsRow.there hh hg).2)
          have FRS := Lib.hid (hfr2.mono hSz)
          have hsz2 : w0.heap.size + 1 ≤ w2.heap.size := Nat.le_trans hSz hB2.size
          clear hv2 hfr2 hP2 hB2
          go_wp2_with ((at_builtin; refine wpList_push rfl _ _ rfl (w0.heap.size + 1) (.slice q kn c) kids rfl ?r1 w2.heap.size rfl (.slice q2 n2 c2) (E s').1 ?r2 ?r3 ?r4 ?r6 (by omega) ?r5 ?_; (case r1 => exact ROW2.out); (case r2 => simp); (case r3 => exact V2.out); (case r4 => exact fun _ => OFF.out); (case r6 => exact FRS.out); (case r5 => simp; omega); intro p3 cap3 w3 hrow3 hbel3; rw [hkn] at hrow3; have ROW3 := Lib.hid hrow3; have P3 := Lib.hid ((P2.out.below (lit_below w2 _)).behind (hbel3.mono (by omega))); have B3 := Lib.hid (show Bar p w1 w3 from ⟨hbel3.os.trans B2.out.os, hbel3.tape.trans B2.out.tape, hbel3.output.trans B2.out.output, Nat.le_trans B2.out.size (Nat.le_trans (by simp) hbel3.size), fun k hk hp => (hbel3.block k (by omega)).trans (((lit_below w2 _).block k (Nat.lt_of_lt_of_le hk B2.out.size)).trans (B2.out.block k hk hp))⟩); clear hrow3 hbel3))
          go_roundw
          case rel => exact ⟨j + 1, nm, _, _, _, by omega, rfl, rfl, by first | rfl | simp, ROW3.out, P3.out, B3.out, RO1.out, by simp; omega⟩
          case measure => simp; omega
        · have yl2 : (y.toList == [101, 120, 112, 114]) = false := by rw [show ([101, 120, 112, 114] : List UInt8) = (⟨#[101, 120, 112, 114]⟩ : ByteArray).toList from by rw [ByteArray.toList_eq], txt_eq]; exact decide_eq_false y2
          by_cases y3 : y = wPat
          · have RO1 : Hid (R = partsM C E P (ws.drop (j + 1)) nm (kids ++ [(P s').1]) (P s').2) := Lib.hid (by rw [RO.out, y3]; rfl)
            have CI := Lib.hid (HPp.out s' wo PO.out)
            subst y3
            clear RO
            unfold wPat at hcell yl1 yl2
            go_wp2_with fail
            refine CI.out.mono ?_
            rintro e w2 ⟨v2, rfl, hv2, hfr2, hP2, hB2⟩
            obtain ⟨q2, n2, c2, rfl⟩ : ∃ q n c, v2 = .slice q n c := by obtain ⟨_, q, c, e, _⟩ := hv2; exact ⟨q, _, c, e⟩
            have P2 := Lib.hid hP2
            have B2 := Lib.hid (BO.out.trans hB2)
            have V2 := Lib.hid (hv2.below (lit_below w2 (.cells #[.slice q2 n2 c2] 25)))
            have ROW2 := Lib.hid ((ROW.out.bar (by omega) PO.out.noStr hB2).below (lit_below w2 (.cells #[.slice q2 n2 c2] 25)))
            have OFF := Lib.hid (show ∀ g, (Value.slice q kn c).ownBlock = some g → Off g (Value.slice q2 n2 c2) from fun g hg => by
              obtain ⟨vs, hh, _⟩ := ROW.out
              exact fresh_off hfr2 (World.ownsRow.there hh hg).2)
            have FRS := Lib.hid (hfr2.mono hSz)
            have hsz2 : w0.heap.size + 1 ≤ w2.heap.size := Nat.le_trans hSz hB2.size
            clear hv2 hfr2 hP2 hB2
            go_wp2_with ((at_builtin; refine wpList_push rfl _ _ rfl (w0.heap.size + 1) (.slice q kn c) kids rfl ?r1 w2.heap.size rfl (.slice q2 n2 c2) (P s').1 ?r2 ?r3 ?r4 ?r6 (by omega) ?r5 ?_; (case r1 => exact ROW2.out); (case r2 => simp); (case r3 => exact V2.out); (case r4 => exact fun _ => OFF.out); (case r6 => exact FRS.out); (case r5 => simp; omega); intro p3 cap3 w3 hrow3 hbel3; rw [hkn] at hrow3; have ROW3 := Lib.hid hrow3; have P3 := Lib.hid ((P2.out.below (lit_below w2 _)).behind (hbel3.mono (by omega))); have B3 := Lib.hid (show Bar p w1 w3 from ⟨hbel3.os.trans B2.out.os, hbel3.tape.trans B2.out.tape, hbel3.output.trans B2.out.output, Nat.le_trans B2.out.size (Nat.le_trans (by simp) hbel3.size), fun k hk hp => (hbel3.block k (by omega)).trans (((lit_below w2 _).block k (Nat.lt_of_lt_of_le hk B2.out.size)).trans (B2.out.block k hk hp))⟩); clear hrow3 hbel3))
            go_roundw
            case rel => exact ⟨j + 1, nm, _, _, _, by omega, rfl, rfl, by first | rfl | simp, ROW3.out, P3.out, B3.out, RO1.out, by simp; omega⟩
            case measure => simp; omega
          · have yl3 : (y.toList == [112, 97, 116]) = false := by rw [show ([112, 97, 116] : List UInt8) = (⟨#[112, 97, 116]⟩ : ByteArray).toList from by rw [ByteArray.toList_eq], txt_eq]; exact decide_eq_false y3
            have RO1 : Hid (R = partsM C E P (ws.drop (j + 1)) nm kids (take C (isKey y) s').2) := Lib.hid (by
              rw [RO.out]
              show (if y = wBind then _ else if y = wExpr then _ else if y = wPat then _ else _) = _
              rw [if_neg y1, if_neg y2, if_neg y3])
            clear RO y1 y2 y3
            go_wp2_with fail
            refine (key_any p y _ PO.out.lt).mono ?_
            rintro e w2 ⟨v2, rfl, hT, hb⟩
            obtain ⟨g2, cap2, rfl⟩ := hT.form
            have TK := Lib.hid (takes_any C p dp s' _ (isKey y) w2 (PO.out.below hb) hT)
            have B2 := Lib.hid (BO.out.step hb)
            have ROW2 := Lib.hid (ROW.out.below hb)
            have P2 := Lib.hid (PO.out.below hb)
            clear hT hb
            go_wp2_with fail
            refine TK.out.mono ?_
            rintro e w3 ⟨t, _, rfl, hP3, hB3⟩
            have P3 := Lib.hid hP3
            have B3 := Lib.hid (B2.out.trans hB3)
            have ROW3 := Lib.hid (ROW2.out.bar (by omega) P2.out.noStr hB3)
            clear hP3 hB3
            go_wp2_with fail
            go_roundw
            case rel => exact ⟨j + 1, nm, kids, _, _, by omega, rfl, rfl, by first | rfl | simp, ROW3.out, P3.out, B3.out, RO1.out, by omega⟩
            case measure => simp; omega
    · have hjz : ¬ ((j : Int) < (ws.length : Int)) := by omega
      have hR2 : R = ((nm, kids), s') := by rw [hRo, List.drop_eq_nil_of_le (by omega)]; rfl
      have HR2 := Lib.hid hR2
      have ROW := Lib.hid (hrow.mono (Nat.le_succ _))
      have PO := Lib.hid hPo
      have BO := Lib.hid (B1.out.trans hBo)
      clear hRo hR2 hrow hPo hBo
      go_wp2_with fail
      go_ret2
      rw [HR2.out]
      exact ⟨_, rfl, ROW.out, PO.out, BO.out⟩
end Go.Proofs.YtggjckalmlploaaGreatDoor
