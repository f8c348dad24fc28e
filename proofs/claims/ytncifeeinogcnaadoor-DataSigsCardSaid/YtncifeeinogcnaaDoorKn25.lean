/- Texts of this seat, one behind the other: DaN. -/
import Derived.Test.YtncifeeinogcnaaDoorKn24
/- The type that a declaration declares. -/
set_option maxRecDepth 100000
namespace Go.Proofs.YtncifeeinogcnaaDoor
open Go.Shelf Go.RowKit Go.Lib Go.Sort Go.Maps Go.Proofs.TreeMath Go.Proofs.LexMath

/-- A row of lists of nodes that is being built. -/
structure Rw (w : World) (q : Option Addr) (k cq : Nat) (vs : List Value) (Ls : List (List Nd)) (wr : World) : Prop where
  len : k = Ls.length
  row : wr.ownsRow w.heap.size 36 1 (.slice q k cq) k vs
  vlen : vs.length = Ls.length
  pts : ∀ i, i < Ls.length → NodesAt wr (vs.getD i default) (Ls.getD i []) ∧ Free (vs.getD i default) (.slice q k cq) wr
  be : Below w.heap.size w wr
theorem Rw.lists {w : World} {q : Option Addr} {k cq : Nat} {vs : List Value} {Ls : List (List Nd)} {wr : World} (h : Rw w q k cq vs Ls wr) : ListsAt wr (.slice q k cq) Ls := by
  refine ⟨vs, ?_, fun i hi => (h.pts i hi).1⟩
  have := SliceAt.of_owns h.row
  rw [h.len] at this ⊢
  exact this
theorem Rw.nil (w wr : World) (h : Below w.heap.size w wr) : Rw w none 0 0 [] [] wr := ⟨rfl, World.ownsRow_nil _ _ _ _, rfl, fun _ hi => absurd hi (Nat.not_lt_zero _), h⟩
theorem Rw.push {w wo w3 w5 : World} {q p' : Option Addr} {k cq cap' : Nat} {vs : List Value} {Ls : List (List Nd)} {aq : Option Addr} {am ac : Nat} {L : List Nd} {T : TypeId} (h : Rw w q k cq vs Ls wo) (b3 : Below wo.heap.size wo w3) (rw1 : w3.ownsRow wo.heap.size 42 4 (.slice aq am ac) L.length (nodeCells L))
    (g : (w3.alloc (.cells #[.slice aq am ac] T)).grownBy w5 (Value.slice q k cq).ownBlock) (hbk : (Value.slice p' (k + 1) cap').ownBlock = (Value.slice q k cq).ownBlock ∨ (Value.slice p' (k + 1) cap').ownBlock = some (w3.alloc (.cells #[.slice aq am ac] T)).heap.size)
    (hr : w5.ownsRow w.heap.size 36 1 (.slice p' (k + 1) cap') (k + 1) (vs ++ [.slice aq am ac])) : Rw w p' (k + 1) cap' (vs ++ [.slice aq am ac]) (Ls ++ [L]) w5 := by
  have BK := box_keep (W := w3) (.cells #[.slice aq am ac] T)
  have hws : wo.heap.size ≤ (w3.alloc (.cells #[.slice aq am ac] T)).heap.size := Nat.le_trans b3.size BK.size
  have hbe : Below w.heap.size w w5 := ((h.be.trans (b3.mono h.be.size)).trans (BK.mono (Nat.le_trans h.be.size b3.size))).grown g (Nat.le_trans h.be.size hws) fun g e => (World.ownsRow.there h.row e).1
  refine ⟨by rw [List.length_append, List.length_singleton, h.len], hr, by rw [List.length_append, List.length_append, List.length_singleton, List.length_singleton, h.vlen], fun i hi => ?_, hbe⟩
  rw [List.length_append, List.length_singleton] at hi
  by_cases hlt : i < Ls.length
  · rw [List.getD_eq_getElem?_getD, List.getElem?_append_left (by rw [h.vlen]; exact hlt), List.getD_eq_getElem?_getD, List.getElem?_append_left hlt, ← List.getD_eq_getElem?_getD, ← List.getD_eq_getElem?_getD]
    exact ⟨SliceAt.grown (((h.pts i hlt).1.below b3).below BK) g (h.pts i hlt).2.1, (h.pts i hlt).2.next hws hbk (Nat.le_trans hws g.size)⟩
  · obtain rfl : i = Ls.length := by omega
    rw [List.getD_eq_getElem?_getD, List.getElem?_append_right (by rw [h.vlen]; exact Nat.le_refl _), List.getD_eq_getElem?_getD, List.getElem?_append_right (Nat.le_refl _), h.vlen, Nat.sub_self]
    have f1 : Free (.slice aq am ac) (.slice q k cq) w3 := ⟨by
      cases hq : (Value.slice aq am ac).ownBlock with
      | none => exact .inl rfl
      | some g =>
        refine .inr fun e => ?_
        have h1 := (World.ownsRow.there rw1 hq).1
        have h2 := (World.ownsRow.there h.row e.symm).2
        omega, fun g e => (World.ownsRow.there rw1 e).2⟩
    exact ⟨SliceAt.grown ((show NodesAt w3 (.slice aq am ac) L from SliceAt.of_owns rw1).below BK) g f1.1, f1.next BK.size hbk (Nat.le_trans BK.size g.size)⟩
/-- The parameters' types. -/
def prmL (p : Nat) : List (List Nd) := (List.range p).map fun i => [vN (i : Nat)]
theorem prmL_succ (p : Nat) : prmL (p + 1) = prmL p ++ [[vN (p : Nat)]] := by unfold prmL; rw [List.range_succ, List.map_append]; rfl
theorem prmL_len (p : Nat) : (prmL p).length = p := by simp [prmL]
/-- The type that is declared. -/
def declN (d : Dt) : List Nd := makeN ⟨32, d.name, 0, 0⟩ (prmL d.params.toNat)
theorem prmL_flat (p : Nat) : (prmL p).flatten.length = p := by
  induction p with
  | zero => rfl
  | succ p ih => rw [prmL_succ, List.flatten_append, List.length_append, ih]; simp
set_option maxHeartbeats 1000000 in
theorem declared_any (d : Dt) (w : World) (h0 : 0 ≤ d.params) (h8 : d.params ≤ 1000) (hd : ∃ q k, d.cv = .slice q d.cons.length k) : Calls Tryd.prog 33 #[d.val] w (NRet w (declN d)) := by
  obtain ⟨i0, hi, hz0, hz1, hz2⟩ := infoSl
  have HI := Lib.hid (And.intro hi (And.intro hz0 (And.intro hz1 hz2)))
  clear hi hz0 hz1 hz2
  obtain ⟨p, hp⟩ : ∃ p : Nat, d.params = p := ⟨d.params.toNat, by omega⟩
  have hp8 : p ≤ 1000 := by omega
  have R : declN d = makeN ⟨32, d.name, 0, 0⟩ (prmL p) := by unfold declN; rw [hp]; rfl
  rw [R]
  obtain ⟨lq, lc, ecv⟩ := hd
  obtain ⟨dn, dp, dv, dcs⟩ := d
  simp only at ecv hp
  subst ecv hp
  obtain ⟨m, hm⟩ : ∃ m, m = dcs.length := ⟨_, rfl⟩
  unfold Dt.val
  simp only
  rw [← hm]
  obtain ⟨wb, hwb⟩ : ∃ wb, wb = w.alloc (.cells #[.string dn, .int .i64 (p : Int), .slice lq m lc] 30) := ⟨_, rfl⟩
  have X := heap_alloc_new w (.cells #[.string dn, .int .i64 (p : Int), .slice lq m lc] 30)
  have BA : Below w.heap.size w wb := by rw [hwb]; exact box_keep _
  rw [← hwb] at X
  have XX := Lib.hid X
  have HW := Lib.hid hwb
  have hlt0 : w.heap.size < wb.heap.size := (Array.getElem?_eq_some_iff.1 X).1
  have FR : Hid (∀ wr, Below wb.heap.size wb wr → wr.cell? ⟨w.heap.size, 0, none⟩ = some (.string dn)) := Lib.hid fun wr hb => (hb.cell (p := ⟨w.heap.size, 0, none⟩) hlt0).trans (Lib.cell_of_heap XX.out 0)
  have E : Hid (∀ e w' wr, Below wb.heap.size wb wr → NRet wr (makeN ⟨32, dn, 0, 0⟩ (prmL p)) e w' → NRet w (makeN ⟨32, dn, 0, 0⟩ (prmL p)) e w') := Lib.hid fun e w' wr hb ⟨v, e1, h1, b1⟩ => ⟨v, e1, h1, (BA.trans (hb.mono BA.size)).trans (b1.mono (Nat.le_trans BA.size hb.size))⟩
  generalize NRet w (makeN ⟨32, dn, 0, 0⟩ (prmL p)) = Z at E ⊢
  have S0 := Lib.hid (Rw.nil wb wb (Below.refl _ _))
  clear hm X BA hwb R h0 h8
  go_enter Tryd.func33, Tryd.ntmps33
  go_wp2
  rw [← HW.out]
  go_loopw [3, 7] (fun s3 s7 wr => ∃ (i : Nat) (q : Option Addr) (cq : Nat) (vs : List Value), i ≤ p ∧ s7 = .int .i64 i ∧ s3 = .slice q i cq ∧ Hid (Rw wb q i cq vs (prmL i) wr)) (fun _ s7 _ => p - (intOf s7).toNat)
  case atStart => exact ⟨0, none, 0, [], Nat.zero_le _, rfl, rfl, S0⟩
  case round =>
    obtain ⟨wo, hwo⟩ : ∃ wo : World, wo = wr := ⟨_, rfl⟩
    subst hwo
    obtain ⟨i, q, cq, vs, hi, rfl, rfl, hS⟩ := hrel
    clear S0
    by_cases hlt : i < p
    · have k2 : ((i : Int) < (p : Int)) := by omega
      have CL := Lib.hid (make_own 31 i 0 ⟨#[]⟩ none 0 wo)
      have HK : Hid (i + 1 ≤ maxLen ∧ (i + 1) * 24 ≤ 140737488355328) := Lib.hid (by constructor; unfold maxLen; omega; omega)
      go_wp2_with fail
      refine CL.out.mono ?_
      rintro e w3 ⟨v1, rfl, rw1, b3⟩
      obtain ⟨aq, ac, rfl⟩ := nodes_form' (SliceAt.of_owns rw1 : NodesAt w3 v1 _)
      have RW1 := Lib.hid rw1
      have B3 := Lib.hid b3
      have BK := Lib.hid (box_keep (W := w3) (.cells #[.slice aq 1 ac] 36))
      have R1 : Hid ((w3.alloc (.cells #[.slice aq 1 ac] 36)).ownsRow wb.heap.size 36 1 (.slice q i cq) i vs) := Lib.hid (World.ownsRow.keep hS.out.row fun g hg => ((b3.trans (BK.out.mono b3.size)).block g (World.ownsRow.there hS.out.row hg).2))
      have LC := Lib.hid (CellsIn.at (lit_at w3 #[.slice aq 1 ac] 36))
      have HB : Hid (wb.heap.size ≤ (w3.alloc (.cells #[.slice aq 1 ac] 36)).heap.size) := Lib.hid (Nat.le_trans hS.out.be.size (Nat.le_trans b3.size BK.out.size))
      clear b3 rw1 CL
      simp only [List.length_singleton]
      go_wp2_with ((at_builtin; refine wpList_append_any _ rfl _ _ 31 rfl wb.heap.size 36 i0 (.slice none 0 0) 1 24 Tryd.underlying31 HI.out.1 HI.out.2.1 HI.out.2.2.1 HI.out.2.2.2 rfl (by decide) (.slice q i cq) i vs rfl R1.out (some ⟨w3.heap.size, 0, none⟩) 1 1 [.slice aq 1 ac] rfl rfl (fun _ => ⟨_, rfl, LC.out⟩) (by intro u hu; simp at hu; subst hu; rfl) HK.out.1 HK.out.2 HB.out ?_; intro p' cap' w5 hown hgrow hblk; have RN := Lib.hid hown; have GN := Lib.hid hgrow; have HBK := Lib.hid hblk; clear hown hgrow hblk))
      go_roundw
      case rel => exact ⟨i + 1, p', cap', _, hlt, by go_num, rfl, Lib.hid (by rw [prmL_succ]; exact hS.out.push B3.out RW1.out GN.out HBK.out RN.out)⟩
      case measure => simp [intOf]; omega
    · obtain rfl : i = p := by omega
      have x0 := FR.out _ hS.out.be
      have MK := Lib.hid (make_any ⟨32, dn, 0, 0⟩ _ _ wo hS.out.lists ⟨by rw [prmL_len]; omega, by rw [prmL_flat]; omega⟩)
      unfold Nd.val at MK
      have EE := Lib.hid (fun e w' => E.out e w' wo hS.out.be)
      clear hS E
      go_wp2_with fail
      refine MK.out.mono ?_
      intro e w3 h3
      have F := Lib.hid (EE.out e w3 h3)
      obtain ⟨v3, rfl, _, _⟩ := h3
      go_wp2
      first | go_ret | skip
      exact F.out
end Go.Proofs.YtncifeeinogcnaaDoor
