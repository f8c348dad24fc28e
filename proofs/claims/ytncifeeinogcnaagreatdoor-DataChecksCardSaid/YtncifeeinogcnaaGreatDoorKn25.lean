/- Texts of this seat, one behind the other: DaN, Same. -/
import Derived.Test.YtncifeeinogcnaaGreatDoorKn24
import Derived.Test.YtncifeeinogcnaaGreatDoorKn02
/- The type that a declaration declares. -/
set_option maxRecDepth 100000
namespace Go.Proofs.YtncifeeinogcnaaGreatDoor
open Go.Shelf Go.RowKit Go.Lib Go.Sort Go.Maps Go.Proofs.TreeMath Go.Proofs.LexMath

/-- A row of lists of nodes that is being built. -/
structure Rw (w : World) (q : Option Addr) (k cq : Nat) (vs : List Value) (Ls : List (List Nd)) (wr : World) : Prop where
  len : k = Ls.length
  row : wr.ownsRow w.heap.size 22 1 (.slice q k cq) k vs
  vlen : vs.length = Ls.length
  pts : ∀ i, i < Ls.length → NodesAt wr (vs.getD i default) (Ls.getD i []) ∧ Free (vs.getD i default) (.slice q k cq) wr
  be : Below w.heap.size w wr
theorem Rw.lists {w : World} {q : Option Addr} {k cq : Nat} {vs : List Value} {Ls : List (List Nd)} {wr : World} (h : Rw w q k cq vs Ls wr) : ListsAt wr (.slice q k cq) Ls := by
  refine ⟨vs, ?_, fun i hi => (h.pts i hi).1⟩
  have := SliceAt.of_owns h.row
  rw [h.len] at this ⊢
  exact this
theorem Rw.nil (w wr : World) (h : Below w.heap.size w wr) : Rw w none 0 0 [] [] wr := ⟨rfl, World.ownsRow_nil _ _ _ _, rfl, fun _ hi => absurd hi (Nat.not_lt_zero _), h⟩
theorem Rw.push {w wo w3 w5 : World} {q p' : Option Addr} {k cq cap' : Nat} {vs : List Value} {Ls : List (List Nd)} {aq : Option Addr} {am ac : Nat} {L : List Nd} {T : TypeId} (h : Rw w q k cq vs Ls wo) (b3 : Below wo.heap.size wo w3) (rw1 : w3.ownsRow wo.heap.size 58 4 (.slice aq am ac) L.length (nodeCells L))
    (g : (w3.alloc (.cells #[.slice aq am ac] T)).grownBy w5 (Value.slice q k cq).ownBlock) (hbk : (Value.slice p' (k + 1) cap').ownBlock = (Value.slice q k cq).ownBlock ∨ (Value.slice p' (k + 1) cap').ownBlock = some (w3.alloc (.cells #[.slice aq am ac] T)).heap.size)
    (hr : w5.ownsRow w.heap.size 22 1 (.slice p' (k + 1) cap') (k + 1) (vs ++ [.slice aq am ac])) : Rw w p' (k + 1) cap' (vs ++ [.slice aq am ac]) (Ls ++ [L]) w5 := by
  have BK := box_keep (W := w3) (.cells #[.slice aq am ac] T)
  have hws : wo.heap.size ≤ (w3.alloc (.cells #[.slice aq am ac] T)).heap.size := Nat.le_trans b3.size BK.size
  have hbe : Below w.heap.size w w5 := ((h.be.trans (b3.mono h.be.size)).trans (BK.mono (Nat.le_trans h.be.size b3.size))).grown g (Nat.le_trans h.be.size hws) fun g e => (World.ownsRow.there h.row e).1
  refine ⟨by rw [List.length_append, List.length_singleton, h.len], hr, by rw [List.length_append, List.length_append, List.length_singleton, List.length_singleton, h.vlen], fun i hi => ?_, hbe⟩
  rw [List.length_append, List.length_singleton] at hi
  by_cases hlt : i < Ls.length
  · rw [List.getD_eq_getElem?_getD, List.getElem?_append_left (by rw [h.vlen]; exact hlt), List.getD_eq_getElem?_getD, List.getElem?_append_left hlt, ← List.getD_eq_getElem?_getD, ← List.getD_eq_getElem?_getD]
    exact ⟨SliceAt.grown (((h.pts i hlt).1.below b3).below BK) g (h.pts i hlt).2.1, (h.pts i hlt).2.next hws hbk (Nat.le_trans hws g.size)⟩
  · obtain rfl : i = Ls.length := by omega
    rw [List.getD_eq_getElem?_getD, List.getElem?_append_right (by rw [h.vlen]; exact Nat.le_refl _), List.getD_eq_getElem?_getD, List.getElem?_append_right (Nat.le_refl _), h.vlen, Nat.sub_self]
    have f1 : Free (.slice aq am ac) (.slice q k cq) w3 := ⟨by
      cases hq : (Value.slice aq am ac).ownBlock with
      | none => exact .inl rfl
      | some g =>
        refine .inr fun e => ?_
        have h1 := (World.ownsRow.there rw1 hq).1
        have h2 := (World.ownsRow.there h.row e.symm).2
        omega, fun g e => (World.ownsRow.there rw1 e).2⟩
    exact ⟨SliceAt.grown ((show NodesAt w3 (.slice aq am ac) L from SliceAt.of_owns rw1).below BK) g f1.1, f1.next BK.size hbk (Nat.le_trans BK.size g.size)⟩
/-- The parameters' types. -/
def prmL (p : Nat) : List (List Nd) := (List.range p).map fun i => [vN (i : Nat)]
theorem prmL_succ (p : Nat) : prmL (p + 1) = prmL p ++ [[vN (p : Nat)]] := by unfold prmL; rw [List.range_succ, List.map_append]; rfl
theorem prmL_len (p : Nat) : (prmL p).length = p := by simp [prmL]
/-- The type that is declared. -/
def declN (d : Dt) : List Nd := makeN ⟨32, d.name, 0, 0⟩ (prmL d.params.toNat)
theorem prmL_flat (p : Nat) : (prmL p).flatten.length = p := by
  induction p with
  | zero => rfl
  | succ p ih => rw [prmL_succ, List.flatten_append, List.length_append, ih]; simp
set_option maxHeartbeats 1000000 in
theorem declared_any (d : Dt) (w : World) (h0 : 0 ≤ d.params) (h8 : d.params ≤ 1000) (hd : ∃ q k, d.cv = .slice q d.cons.length k) : Calls Tryz.prog 69 #[d.val] w (NRet w (declN d)) := by
  obtain ⟨i0, hi, hz0, hz1, hz2⟩ := infoSl
  have HI := Lib.hid (And.intro hi (And.intro hz0 (And.intro hz1 hz2)))
  clear hi hz0 hz1 hz2
  obtain ⟨p, hp⟩ : ∃ p : Nat, d.params = p := ⟨d.params.toNat, by omega⟩
  have hp8 : p ≤ 1000 := by omega
  have R : declN d = makeN ⟨32, d.name, 0, 0⟩ (prmL p) := by unfold declN; rw [hp]; rfl
  rw [R]
  obtain ⟨lq, lc, ecv⟩ := hd
  obtain ⟨dn, dp, dv, dcs⟩ := d
  simp only at ecv hp
  subst ecv hp
  obtain ⟨m, hm⟩ : ∃ m, m = dcs.length := ⟨_, rfl⟩
  unfold Dt.val
  simp only
  rw [← hm]
  obtain ⟨wb, hwb⟩ : ∃ wb, wb = w.alloc (.cells #[.string dn, .int .i64 (p : Int), .slice lq m lc] 110) := ⟨_, rfl⟩
  have X := heap_alloc_new w (.cells #[.string dn, .int .i64 (p : Int), .slice lq m lc] 110)
  have BA : Below w.heap.size w wb := by rw [hwb]; exact box_keep _
  rw [← hwb] at X
  have XX := Lib.hid X
  have HW := Lib.hid hwb
  have hlt0 : w.heap.size < wb.heap.size := (Array.getElem?_eq_some_iff.1 X).1
  have FR : Hid (∀ wr, Below wb.heap.size wb wr → wr.cell? ⟨w.heap.size, 0, none⟩ = some (.string dn)) := Lib.hid fun wr hb => (hb.cell (p := ⟨w.heap.size, 0, none⟩) hlt0).trans (Lib.cell_of_heap XX.out 0)
  have E : Hid (∀ e w' wr, Below wb.heap.size wb wr → NRet wr (makeN ⟨32, dn, 0, 0⟩ (prmL p)) e w' → NRet w (makeN ⟨32, dn, 0, 0⟩ (prmL p)) e w') := Lib.hid fun e w' wr hb ⟨v, e1, h1, b1⟩ => ⟨v, e1, h1, (BA.trans (hb.mono BA.size)).trans (b1.mono (Nat.le_trans BA.size hb.size))⟩
  generalize NRet w (makeN ⟨32, dn, 0, 0⟩ (prmL p)) = Z at E ⊢
  have S0 := Lib.hid (Rw.nil wb wb (Below.refl _ _))
  clear hm X BA hwb R h0 h8
  go_enter Tryz.func69, Tryz.ntmps69
  go_wp2
  rw [← HW.out]
  go_loopw [3, 7] (fun s3 s7 wr => ∃ (i : Nat) (q : Option Addr) (cq : Nat) (vs : List Value), i ≤ p ∧ s7 = .int .i64 i ∧ s3 = .slice q i cq ∧ Hid (Rw wb q i cq vs (prmL i) wr)) (fun _ s7 _ => p - (intOf s7).toNat)
  case atStart => exact ⟨0, none, 0, [], Nat.zero_le _, rfl, rfl, S0⟩
  case round =>
    obtain ⟨wo, hwo⟩ : ∃ wo : World, wo = wr := ⟨_, rfl⟩
    subst hwo
    obtain ⟨i, q, cq, vs, hi, rfl, rfl, hS⟩ := hrel
    clear S0
    by_cases hlt : i < p
    · have k2 : ((i : Int) < (p : Int)) := by omega
      have CL := Lib.hid (make_own 31 i 0 ⟨#[]⟩ none 0 wo)
      have HK : Hid (i + 1 ≤ maxLen ∧ (i + 1) * 24 ≤ 140737488355328) := Lib.hid (by constructor; unfold maxLen; omega; omega)
      go_wp2_with fail
      refine CL.out.mono ?_
      rintro e w3 ⟨v1, rfl, rw1, b3⟩
      obtain ⟨aq, ac, rfl⟩ := nodes_form' (SliceAt.of_owns rw1 : NodesAt w3 v1 _)
      have RW1 := Lib.hid rw1
      have B3 := Lib.hid b3
      have BK := Lib.hid (box_keep (W := w3) (.cells #[.slice aq 1 ac] 22))
      have R1 : Hid ((w3.alloc (.cells #[.slice aq 1 ac] 22)).ownsRow wb.heap.size 22 1 (.slice q i cq) i vs) := Lib.hid (World.ownsRow.keep hS.out.row fun g hg => ((b3.trans (BK.out.mono b3.size)).block g (World.ownsRow.there hS.out.row hg).2))
      have LC := Lib.hid (CellsIn.at (lit_at w3 #[.slice aq 1 ac] 22))
      have HB : Hid (wb.heap.size ≤ (w3.alloc (.cells #[.slice aq 1 ac] 22)).heap.size) := Lib.hid (Nat.le_trans hS.out.be.size (Nat.le_trans b3.size BK.out.size))
      clear b3 rw1 CL
      simp only [List.length_singleton]
      go_wp2_with ((at_builtin; refine wpList_append_any _ rfl _ _ 50 rfl wb.heap.size 22 i0 (.slice none 0 0) 1 24 Tryz.underlying50 HI.out.1 HI.out.2.1 HI.out.2.2.1 HI.out.2.2.2 rfl (by decide) (.slice q i cq) i vs rfl R1.out (some ⟨w3.heap.size, 0, none⟩) 1 1 [.slice aq 1 ac] rfl rfl (fun _ => ⟨_, rfl, LC.out⟩) (by intro u hu; simp at hu; subst hu; rfl) HK.out.1 HK.out.2 HB.out ?_; intro p' cap' w5 hown hgrow hblk; have RN := Lib.hid hown; have GN := Lib.hid hgrow; have HBK := Lib.hid hblk; clear hown hgrow hblk))
      go_roundw
      case rel => exact ⟨i + 1, p', cap', _, hlt, by go_num, rfl, Lib.hid (by rw [prmL_succ]; exact hS.out.push B3.out RW1.out GN.out HBK.out RN.out)⟩
      case measure => simp [intOf]; omega
    · obtain rfl : i = p := by omega
      have x0 := FR.out _ hS.out.be
      have MK := Lib.hid (make_any ⟨32, dn, 0, 0⟩ _ _ wo hS.out.lists ⟨by rw [prmL_len]; omega, by rw [prmL_flat]; omega⟩)
      unfold Nd.val at MK
      have EE := Lib.hid (fun e w' => E.out e w' wo hS.out.be)
      clear hS E
      go_wp2_with fail
      refine MK.out.mono ?_
      intro e w3 h3
      have F := Lib.hid (EE.out e w3 h3)
      obtain ⟨v3, rfl, _, _⟩ := h3
      go_wp2
      first | go_ret | skip
      exact F.out
end Go.Proofs.YtncifeeinogcnaaGreatDoor
/- The comparing functions: Row, Same. -/
set_option maxRecDepth 100000
namespace Go.Proofs.YtncifeeinogcnaaGreatDoor
open Go.RowKit Go.Proofs.TreeMath
/-- A function that returns a bool. -/
def BRet (W : World) (b : Bool) (e : Ending) (w' : World) : Prop := ∃ b', b' = b ∧ e = .returned (.bool b') ∧ Below W.heap.size W w'
theorem same_far (p q : Option Addr) (n m c d : Nat) (w : World) (h : (n != m) = true) : Calls Tryz.prog 20 #[.slice p n c, .slice q m d] w (BRet w false) := by
  have h2 : ((n : Int) != (m : Int)) = true := by simp at h ⊢; omega
  have h3 : ((n : Int) == (m : Int)) = false := by simp at h ⊢; omega
  have h4 : (n == m) = false := by simp at h ⊢; omega
  go_enter Tryz.func20, Tryz.ntmps20
  go_wp2
  go_ret
  exact ⟨_, rfl, rfl, Below.refl _ _⟩
theorem same_zero (p q : Option Addr) (c d : Nat) (w : World) : Calls Tryz.prog 20 #[.slice p 0 c, .slice q 0 d] w (BRet w true) := by
  go_enter Tryz.func20, Tryz.ntmps20
  go_wp2
  refine wp_loop_rounds 1 ?_
  rw [rounds_succ]
  go_wp2
  go_ret
  exact ⟨_, rfl, rfl, Below.refl _ _⟩
theorem list_eq_pre {α : Type} (d : α) (xs ys : List α) (hl : xs.length = ys.length) (h : ∀ i, i < xs.length → xs.getD i d = ys.getD i d) : xs = ys := by
  refine List.ext_getElem hl fun i h1 h2 => ?_
  have := h i h1
  simpa [List.getD_eq_getElem?_getD, List.getElem?_eq_getElem h1, List.getElem?_eq_getElem h2] using this
set_option maxHeartbeats 2000000 in
theorem same_any' (b off b2 off2 c d n : Nat) (xs ys : List Nd) (w : World) (hx : Hid (xs.length = n)) (hy : Hid (ys.length = n)) (h1 : Hid (CellsIn w b off (nodeCells xs))) (h2 : Hid (CellsIn w b2 off2 (nodeCells ys))) (hb : b < w.heap.size) (hb2 : b2 < w.heap.size) (hn : n ≤ 1000000) (hn0 : 0 < n) :
    Calls Tryz.prog 20 #[.slice (some ⟨b, off, none⟩) n c, .slice (some ⟨b2, off2, none⟩) n d] w (BRet w (decide (xs = ys))) := by
  go_enter Tryz.func20, Tryz.ntmps20
  go_wp2
  go_loopw [5] (fun i wr => ∃ k : Nat, k ≤ n ∧ i = .int .i64 k ∧ Below w.heap.size w wr ∧ ∀ j, j < k → xs.getD j default = ys.getD j default) (fun i _ => n - (intOf i).toNat)
  case atStart => exact ⟨0, Nat.zero_le _, rfl, Below.refl _ _, fun j hj => by omega⟩
  case round =>
    obtain ⟨k, hk, rfl, hbel, hpre⟩ := hrel
    have HP := Lib.hid hpre
    clear hpre
    by_cases hlt : k < n
    · obtain ⟨a1, a2, a3, a4⟩ := h1.out.node k (by rw [hx.out]; exact hlt)
      obtain ⟨e1, e2, e3, e4⟩ := h2.out.node k (by rw [hy.out]; exact hlt)
      have a1 := (hbel.cell (p := ⟨b, off + k * 4, none⟩) hb).trans a1
      have a2 := (hbel.cell (p := ⟨b, off + k * 4 + 1, none⟩) hb).trans a2
      have a3 := (hbel.cell (p := ⟨b, off + k * 4 + 2, none⟩) hb).trans a3
      have a4 := (hbel.cell (p := ⟨b, off + k * 4 + 3, none⟩) hb).trans a4
      have e1 := (hbel.cell (p := ⟨b2, off2 + k * 4, none⟩) hb2).trans e1
      have e2 := (hbel.cell (p := ⟨b2, off2 + k * 4 + 1, none⟩) hb2).trans e2
      have e3 := (hbel.cell (p := ⟨b2, off2 + k * 4 + 2, none⟩) hb2).trans e3
      have e4 := (hbel.cell (p := ⟨b2, off2 + k * 4 + 3, none⟩) hb2).trans e4
      obtain ⟨x, hxk⟩ : ∃ x, x = xs.getD k default := ⟨_, rfl⟩
      obtain ⟨y, hyk⟩ : ∃ y, y = ys.getD k default := ⟨_, rfl⟩
      rw [← hxk] at a1 a2 a3 a4
      rw [← hyk] at e1 e2 e3 e4
      have HX := Lib.hid hxk
      have HY := Lib.hid hyk
      clear hxk hyk
      obtain ⟨x1, x2, x3, x4⟩ := x
      obtain ⟨y1, y2, y3, y4⟩ := y
      simp only at a1 a2 a3 a4 e1 e2 e3 e4
      by_cases g1 : x1 = y1
      · subst g1
        by_cases g2 : x2 = y2
        · subst g2
          by_cases g3 : x3 = y3
          · subst g3
            by_cases g4 : x4 = y4
            · subst g4
              go_wp2
              go_region
              go_wp2
              go_roundw
              case rel => exact ⟨k + 1, by omega, by go_num, hbel.drew, fun j hj => by
                rcases Nat.lt_or_ge j k with h | h
                · exact HP.out j h
                · rw [show j = k by omega, ← HX.out, ← HY.out]⟩
              case measure => simp [intOf]; omega
            · have f1 : (x4 == y4) = false := by simpa using g4
              have f2 : (x4 != y4) = true := by simpa using g4
              go_wp2
              go_region
              go_wp2
              go_ret
              refine ⟨_, ?_, rfl, hbel.drew⟩
              symm
              rw [decide_eq_false_iff_not]
              intro h
              apply g4
              have h9 := HX.out.trans ((congrArg (fun l => List.getD l k default) h).trans HY.out.symm)
              exact congrArg Nd.kids h9
          · have f1 : (x3 == y3) = false := by simpa using g3
            have f2 : (x3 != y3) = true := by simpa using g3
            go_wp2
            go_region
            go_wp2
            go_ret
            refine ⟨_, ?_, rfl, hbel.drew⟩
            symm
            rw [decide_eq_false_iff_not]
            intro h
            apply g3
            have h9 := HX.out.trans ((congrArg (fun l => List.getD l k default) h).trans HY.out.symm)
            exact congrArg Nd.num h9
        · have f3 : (x2.toList == y2.toList) = false := by
            rw [beq_eq_false_iff_ne]
            intro h
            exact g2 (Go.WideShapes.bytes_inj (by simpa [ByteArray.toList_eq] using h))
          go_wp2
          go_region
          go_wp2
          go_ret
          refine ⟨_, ?_, rfl, hbel.drew⟩
          symm
          rw [decide_eq_false_iff_not]
          intro h
          apply g2
          have h9 := HX.out.trans ((congrArg (fun l => List.getD l k default) h).trans HY.out.symm)
          exact congrArg Nd.text h9
      · have f1 : (x1 == y1) = false := by simpa using g1
        have f2 : (x1 != y1) = true := by simpa using g1
        go_wp2
        go_region
        go_wp2
        go_ret
        refine ⟨_, ?_, rfl, hbel.drew⟩
        symm
        rw [decide_eq_false_iff_not]
        intro h
        apply g1
        have h9 := HX.out.trans ((congrArg (fun l => List.getD l k default) h).trans HY.out.symm)
        exact congrArg Nd.kind h9
    · go_wp2
      go_ret
      refine ⟨_, ?_, rfl, hbel⟩
      symm
      rw [decide_eq_true_eq]
      exact list_eq_pre default xs ys (by rw [hx.out, hy.out]) fun i hi => HP.out i (by rw [hx.out] at hi; omega)
theorem same_any (v v2 : Value) (xs ys : List Nd) (w : World) (h : NodesAt w v xs) (h2 : NodesAt w v2 ys) (hn : xs.length ≤ 1000000) : Calls Tryz.prog 20 #[v, v2] w (BRet w (decide (xs = ys))) := by
  obtain ⟨_, p, c, rfl, _, _, hp⟩ := h
  obtain ⟨_, q, d, rfl, _, _, hq⟩ := h2
  by_cases hl : xs.length = ys.length
  · by_cases h0 : xs.length = 0
    · obtain rfl : xs = [] := List.eq_nil_of_length_eq_zero h0
      obtain rfl : ys = [] := List.eq_nil_of_length_eq_zero (by rw [← hl]; rfl)
      exact same_zero p q c d w
    · obtain ⟨b, off, rfl, hb, hc⟩ := hp h0
      obtain ⟨b2, off2, rfl, hb2, hc2⟩ := hq (by omega)
      rw [← hl]
      exact same_any' b off b2 off2 c d xs.length xs ys w rfl hl.symm hc hc2 hb hb2 hn (Nat.pos_of_ne_zero h0)
  · rw [decide_eq_false (fun e => hl (by rw [e]))]
    exact same_far p q _ _ c d w (by simpa using hl)
end Go.Proofs.YtncifeeinogcnaaGreatDoor
