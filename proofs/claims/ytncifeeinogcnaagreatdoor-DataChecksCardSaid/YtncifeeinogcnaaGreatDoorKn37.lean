/- Texts of this seat, one behind the other: DfH. -/
import Derived.Test.YtncifeeinogcnaaGreatDoorKn27
import Derived.Test.YtncifeeinogcnaaGreatDoorKn35
import Derived.Test.YtncifeeinogcnaaGreatDoorKn36
import Derived.BigRegion
import Derived.Deep.RegionWith
import Derived.Deep.RegionLaw
import Derived.Deep.RegionHeld3
import Derived.IntWalk
/- The document's Sigs. -/
set_option maxRecDepth 100000
namespace Go.Proofs.YtncifeeinogcnaaGreatDoor
open Go.Shelf Go.RowKit Go.Lib Go.Sort Go.Maps Go.Proofs.TreeMath Go.Proofs.LexMath

/-- A row of names and types that is being built. -/
structure RQ (w : World) (q : Option Addr) (k cq : Nat) (sl : List Sg) (L : List (ByteArray × List Nd)) (W : World) : Prop where
  len : k = sl.length
  be : Below w.heap.size w W
  row : W.ownsRow w.heap.size 106 2 (.slice q k cq) k (sl.flatMap Sg.cells)
  sgs : sl.map (fun s => (s.name, s.ty)) = L
  pts : ∀ s ∈ sl, NodesAt W s.v s.ty ∧ Free s.v (.slice q k cq) W
theorem Free.below {v r : Value} {W W' : World} (h : Free v r W) (b : W.heap.size ≤ W'.heap.size) : Free v r W' := ⟨h.1, fun g e => Nat.lt_of_lt_of_le (h.2 g e) b⟩
theorem RQ.below {w W W' : World} {q : Option Addr} {k cq : Nat} {sl : List Sg} {L : List (ByteArray × List Nd)} (h : RQ w q k cq sl L W) (b : Below W.heap.size W W') : RQ w q k cq sl L W' :=
  ⟨h.len, h.be.trans (b.mono h.be.size), World.ownsRow.keep h.row fun g hg => b.block g (World.ownsRow.there h.row hg).2, h.sgs, fun s hs => ⟨(h.pts s hs).1.below b, (h.pts s hs).2.below b.size⟩⟩
theorem RQ.push {w W w4 w5 : World} {q p' : Option Addr} {k cq cap' : Nat} {sl : List Sg} {L : List (ByteArray × List Nd)} {aq : Option Addr} {am ac : Nat} {nm : ByteArray} {ty : List Nd} {T : TypeId} (h : RQ w q k cq sl L W) (b4 : Below W.heap.size W w4)
    (n4 : NodesAt w4 (.slice aq am ac) ty) (f4 : Free (.slice aq am ac) (.slice q k cq) w4)
    (g : (w4.alloc (.cells #[.string nm, .slice aq am ac] T)).grownBy w5 (Value.slice q k cq).ownBlock) (hbk : (Value.slice p' (k + 1) cap').ownBlock = (Value.slice q k cq).ownBlock ∨ (Value.slice p' (k + 1) cap').ownBlock = some (w4.alloc (.cells #[.string nm, .slice aq am ac] T)).heap.size)
    (hr : w5.ownsRow w.heap.size 106 2 (.slice p' (k + 1) cap') (k + 1) (sl.flatMap Sg.cells ++ [.string nm, .slice aq am ac])) :
    RQ w p' (k + 1) cap' (sl ++ [⟨nm, .slice aq am ac, ty⟩]) (L ++ [(nm, ty)]) w5 ∧ ∀ tv tl, NodesAt W tv tl → Free tv (.slice q k cq) W → NodesAt w5 tv tl ∧ Free tv (.slice p' (k + 1) cap') w5 := by
  have BK := box_keep (W := w4) (.cells #[.string nm, .slice aq am ac] T)
  have hws : W.heap.size ≤ (w4.alloc (.cells #[.string nm, .slice aq am ac] T)).heap.size := Nat.le_trans b4.size BK.size
  have h4 := (h.below b4).below BK
  have step : ∀ v ns, NodesAt (w4.alloc (.cells #[.string nm, .slice aq am ac] T)) v ns → Free v (.slice q k cq) (w4.alloc (.cells #[.string nm, .slice aq am ac] T)) → NodesAt w5 v ns ∧ Free v (.slice p' (k + 1) cap') w5 := fun v ns h1 h2 => ⟨SliceAt.grown h1 g h2.1, h2.next (Nat.le_refl _) hbk g.size⟩
  refine ⟨⟨by rw [List.length_append, List.length_singleton, h.len], h4.be.grown g h4.be.size fun g e => (World.ownsRow.there h4.row e).1, ?_, by rw [List.map_append, h.sgs]; rfl, fun s hs => ?_⟩, fun tv tl h1 h2 => step tv tl ((h1.below b4).below BK) ((h2.below b4.size).below BK.size)⟩
  · rw [List.flatMap_append]; exact hr
  · rcases List.mem_append.1 hs with hs | hs
    · exact step _ _ (h4.pts s hs).1 (h4.pts s hs).2
    · rw [List.mem_singleton] at hs
      subst hs
      exact step _ _ (n4.below BK) (f4.below BK.size)
theorem sigL_take (ds : List Dt) (i : Nat) (hi : i < ds.length) : sigL (pairsOf (ds.take (i + 1))) = sigL (pairsOf (ds.take i)) ++ (ds.getD i default).cons.map fun c => (c.name, arrN c.args (declN (ds.getD i default))) := by
  unfold sigL
  rw [pairs_take ds i hi, List.map_append, List.map_map]
  rfl
theorem arrN_few (Ls : List (List Nd)) (tl : List Nd) (h : ∀ t ∈ Ls, t.length ≤ 60) : (arrN Ls tl).length ≤ Ls.length * 61 + tl.length := by
  unfold arrN
  rw [List.length_append]
  have : (arrL Ls).length ≤ Ls.length * 61 := by
    unfold arrL
    induction Ls with
    | nil => simp
    | cons L Ls ih =>
      have h1 := ih fun L hL => h L (List.mem_cons_of_mem _ hL)
      have h2 := h L (List.mem_cons_self ..)
      rw [List.flatMap_cons, List.length_append, List.length_cons, List.length_cons]
      omega
  omega
theorem declN_len (d : Dt) : (declN d).length = 1 + d.params.toNat := by unfold declN makeN; rw [List.length_cons, prmL_flat]; omega
/-- What Sigs answers. -/
def RsP (ds : List Dt) (w : World) (e : Ending) (w' : World) : Prop := ∃ v sl, e = .returned v ∧ SgsAt w' v sl ∧ sl.map (fun s => (s.name, s.ty)) = sigL (pairsOf ds) ∧ Below w.heap.size w w'
/-- One declaration's type, made of its parameters. -/
theorem decl_make (d : Dt) (v : Value) (w : World) (h : ListsAt w v (prmL d.params.toNat)) (h8 : d.params ≤ 1000) : Calls Tryz.prog 75 #[(⟨32, d.name, 0, 0⟩ : Nd).val, v] w (NOwn w (declN d)) :=
  ref_makeO ⟨32, d.name, 0, 0⟩ v _ w h ⟨by rw [prmL_len]; omega, by rw [prmL_flat]; omega⟩
theorem size_two (w : World) (o : Obj) : (w.alloc o).heap.size = w.heap.size + 1 := by simp
theorem callAw (vs : Array Value) (w : World) : (callFunc 34 vs).run Tryz.prog w = .ok (.enter 34 vs) w := run_callFunc Tryz.func34 (by kernel_rfl) (by kernel_rfl) vs w
set_option maxHeartbeats 8000000 in
theorem rsigs_any (lv : Value) (ds : List Dt) (w : World) (h : DtsAt w lv ds) (hf : FewDs ds) (hp : ∀ d ∈ ds, 0 ≤ d.params ∧ d.params ≤ 8) : Calls Tryz.prog 31 #[lv] w (RsP ds w) := by
  obtain ⟨i0, hi, hz0, hz1, hz2⟩ := infoSl
  have HI := Lib.hid (And.intro hi (And.intro hz0 (And.intro hz1 hz2)))
  obtain ⟨j0, hj, hj0, hj1, hj2⟩ := infoSg
  have HJ := Lib.hid (And.intro hj (And.intro hj0 (And.intro hj1 hj2)))
  have H := Lib.hid h
  obtain ⟨lq, lc, rfl⟩ := h.form
  obtain ⟨n, hnn⟩ : ∃ n, n = ds.length := ⟨_, rfl⟩
  have HN := Lib.hid hnn
  have FD := Lib.hid hf.2
  have HP := Lib.hid hp
  have n70 : n ≤ 70 := by rw [hnn]; exact hf.1
  have TAKE := Lib.hid (fun i (hi : i < n) => sigL_take ds i (by rw [← hnn]; exact hi))
  have LEN : Hid (∀ i, i ≤ n → (sigL (pairsOf (ds.take i))).length ≤ 4900) := Lib.hid fun i hi => by
    have e : (sigL (pairsOf (ds.take i))).length = (namesD (ds.take i)).length := by unfold sigL namesD; rw [List.length_map, List.length_map]
    rw [e]
    have h2 := namesD_len (ds.take i) 70 fun d hd => (hf.2 d (List.mem_of_mem_take hd)).2.1
    have h3 : (ds.take i).length ≤ 70 := by rw [List.length_take]; omega
    have : (ds.take i).length * 70 ≤ 70 * 70 := Nat.mul_le_mul_right _ h3
    omega
  have E : Hid (∀ q k cq sl w', RQ w q k cq sl (sigL (pairsOf (ds.take n))) w' → RsP ds w (.returned (.slice q k cq)) w') := Lib.hid fun q k cq sl w' h => ⟨_, sl, rfl, ⟨by have := SliceAt.of_owns h.row; rw [h.len] at this ⊢; exact this, fun s hs => (h.pts s hs).1⟩, by rw [h.sgs, hnn, List.take_length], h.be⟩
  have S0 : Hid (RQ w (some ⟨w.heap.size, 0, none⟩) 0 0 [] (sigL (pairsOf (ds.take 0))) (w.alloc (.cells #[] 106))) := Lib.hid ⟨rfl, box_keep _, World.ownsRow_made w #[] 0 (Nat.le_refl _) (Nat.zero_le _) rfl, rfl, fun s hs => by simp at hs⟩
  rw [← hnn]
  generalize hZ : RsP ds w = Z at E ⊢
  clear h hnn hf hp hi hz0 hz1 hz2 hZ hj hj0 hj1 hj2
  go_enter Tryz.func31, Tryz.ntmps31
  go_wp2
  go_loopw [3, 4] (fun s3 s4 wr => ∃ (i k : Nat) (q : Option Addr) (cq : Nat) (sl : List Sg), i ≤ n ∧ s4 = .int .i64 i ∧ s3 = .slice q k cq ∧ Hid (RQ w q k cq sl (sigL (pairsOf (ds.take i))) wr)) (fun _ s4 _ => n - (intOf s4).toNat)
  case atStart => exact ⟨0, 0, _, _, _, Nat.zero_le _, rfl, rfl, S0⟩
  case round =>
    obtain ⟨wo, hwo⟩ : ∃ wo : World, wo = wr := ⟨_, rfl⟩
    subst hwo
    obtain ⟨i, k, q, cq, sl, hi, rfl, rfl, hR⟩ := hrel
    by_cases hlt : i < n
    · have t1 : decide ((i : Int) < (n : Int)) = true := by simpa using hlt
      obtain ⟨b, o, c, e, hb, cw0, cw1, cw⟩ := H.out.cell i (by rw [← HN.out]; exact hlt)
      simp only [Value.slice.injEq] at e
      obtain ⟨rfl, -, -⟩ := e
      have DM := getD_mem ds i (by rw [← HN.out]; exact hlt)
      have CF := Lib.hid (H.out.2 _ DM)
      have FCD := FD.out _ DM
      have PP := HP.out _ DM
      have TAKEI := Lib.hid (TAKE.out i hlt)
      have LENI := LEN.out (i + 1) (by omega)
      have LENJ := LEN.out i (by omega)
      rw [TAKE.out i hlt, List.length_append, List.length_map] at LENI
      obtain ⟨d, hd⟩ : ∃ d, d = ds.getD i default := ⟨_, rfl⟩
      rw [← hd] at cw0 cw1 cw CF FCD PP TAKEI LENI
      obtain ⟨lq2, lc2, ecv⟩ := CF.out.form
      obtain ⟨m, hm⟩ : ∃ m, m = d.cons.length := ⟨_, rfl⟩
      rw [← hm] at ecv LENI
      rw [ecv] at cw
      have m70 : m ≤ 70 := by rw [hm]; exact FCD.2.1
      have HM := Lib.hid hm
      have ECV := Lib.hid ecv
      have HBO := Lib.hid hb
      obtain ⟨p, hpp⟩ : ∃ p : Nat, d.params = p := ⟨d.params.toNat, by omega⟩
      have p8 : p ≤ 8 := by omega
      rw [hpp] at cw1
      obtain ⟨dn, hdn⟩ : ∃ dn, dn = d.name := ⟨_, rfl⟩
      rw [← hdn] at cw0
      have CW0 := Lib.hid cw0
      have CW1 := Lib.hid cw1
      have CW := Lib.hid cw
      have FC3 := Lib.hid FCD.2.2
      have HPP := Lib.hid hpp
      have DL : Hid ((declN d).length ≤ 9) := Lib.hid (by rw [declN_len]; omega)
      have MK : Hid (∀ v W, ListsAt W v (prmL p) → Calls Tryz.prog 75 #[.agg #[.int .i64 32, .string dn, .int .i64 0, .int .i64 0], v] W (NOwn W (declN d))) := Lib.hid fun v W hW => by
        have := decl_make d v W (by rw [hpp]; exact hW) (by omega)
        rw [← hdn] at this
        exact this
      clear hd ecv hm hb cw0 cw1 cw DM FCD PP hpp hdn
      have SV : Hid (Rw wo (some ⟨wo.heap.size, 0, none⟩) 0 0 [] (prmL 0) (wo.alloc (.cells #[] 22))) := Lib.hid ⟨rfl, World.ownsRow_made wo #[] 0 (Nat.le_refl _) (Nat.zero_le _) rfl, rfl, fun i hi => by simp [prmL] at hi, box_keep _⟩
      have BWO := Lib.hid hR.out.be
      go_wp2
      go_loopw [5, 6] (fun s5 s6 wr => ∃ (a cv : Nat) (qv : Option Addr) (vs : List Value), a ≤ p ∧ s6 = .int .i64 a ∧ s5 = .slice qv a cv ∧ Hid (Rw wo qv a cv vs (prmL a) wr)) (fun _ s6 _ => p - (intOf s6).toNat)
      case atStart => exact ⟨0, 0, _, _, Nat.zero_le _, rfl, rfl, SV⟩
      case round =>
        clear SV
        obtain ⟨wx, hwx⟩ : ∃ wx : World, wx = wr := ⟨_, rfl⟩
        subst hwx
        obtain ⟨a, cv, qv, vs, ha, rfl, rfl, hS⟩ := hrel
        have BWX := Lib.hid (BWO.out.trans (hS.out.be.mono BWO.out.size))
        have c1 := (BWX.out.cell (p := ⟨b, o + i * 3 + 1, none⟩) HBO.out).trans CW1.out
        by_cases hlt2 : a < p
        · have t2 : decide ((a : Int) < (p : Int)) = true := by simpa using hlt2
          obtain ⟨w3, hw3⟩ : ∃ w3, w3 = wx.alloc (.cells #[.int .i64 31, .string ⟨#[]⟩, .int .i64 (a : Int), .int .i64 0] 58) := ⟨_, rfl⟩
          have B3 : Hid (Below wx.heap.size wx w3) := Lib.hid (by rw [hw3]; exact box_keep _)
          have RW1 : Hid (w3.ownsRow wx.heap.size 58 4 (.slice (some ⟨wx.heap.size, 0, none⟩) 1 1) [vN (a : Nat)].length (nodeCells [vN (a : Nat)])) := Lib.hid (by rw [hw3]; exact owns_node wx wx.heap.size (vN (a : Nat)) (Nat.le_refl _))
          have SZ : w3.heap.size = wx.heap.size + 1 := by rw [hw3]; exact size_two _ _
          have BK : Hid (Below w3.heap.size w3 (w3.alloc (.cells #[.slice (some ⟨wx.heap.size, 0, none⟩) 1 1] 22))) := Lib.hid (box_keep _)
          have R1 : Hid ((w3.alloc (.cells #[.slice (some ⟨wx.heap.size, 0, none⟩) 1 1] 22)).ownsRow wo.heap.size 22 1 (.slice qv a cv) a vs) := Lib.hid (World.ownsRow.keep hS.out.row fun g hg => ((B3.out.trans (BK.out.mono B3.out.size)).block g (World.ownsRow.there hS.out.row hg).2))
          have LC : Hid (∀ j u, ([.slice (some ⟨wx.heap.size, 0, none⟩) 1 1] : List Value)[j]? = some u → (w3.alloc (.cells #[.slice (some ⟨wx.heap.size, 0, none⟩) 1 1] 22)).cell? ((⟨wx.heap.size + 1, 0, none⟩ : Addr).add j) = some u) := Lib.hid (by
            have := CellsIn.at (lit_at w3 #[.slice (some ⟨wx.heap.size, 0, none⟩) 1 1] 22)
            rw [SZ] at this
            exact this)
          have HB : Hid (wo.heap.size ≤ (w3.alloc (.cells #[.slice (some ⟨wx.heap.size, 0, none⟩) 1 1] 22)).heap.size) := Lib.hid (Nat.le_trans hS.out.be.size (Nat.le_trans B3.out.size BK.out.size))
          have HK : Hid (a + 1 ≤ maxLen ∧ (a + 1) * 24 ≤ 140737488355328) := Lib.hid (by constructor; unfold maxLen; omega; omega)
          have HW3 := Lib.hid hw3
          have SHH := Lib.hid hS.out
          clear hw3 hS SZ
          go_wp2_with ((at_builtin; rw [← HW3.out]; refine wpList_append_any _ rfl _ _ 50 rfl wo.heap.size 22 i0 (.slice none 0 0) 1 24 Tryz.underlying50 HI.out.1 HI.out.2.1 HI.out.2.2.1 HI.out.2.2.2 rfl (by decide) (.slice qv a cv) a vs rfl R1.out (some ⟨wx.heap.size + 1, 0, none⟩) 1 1 [.slice (some ⟨wx.heap.size, 0, none⟩) 1 1] rfl rfl (fun _ => ⟨_, rfl, LC.out⟩) (by intro u hu; simp at hu; subst hu; rfl) HK.out.1 HK.out.2 HB.out ?_; intro p' cap' w5 hown hgrow hblk; have RN := Lib.hid hown; have GN := Lib.hid hgrow; have HBK := Lib.hid hblk; clear hown hgrow hblk))
          go_roundw
          case rel => exact ⟨a + 1, cap', p', _, hlt2, by go_num, rfl, Lib.hid (by rw [prmL_succ]; exact SHH.out.push B3.out RW1.out GN.out HBK.out RN.out)⟩
          case measure => simp [intOf]; omega
        · obtain rfl : a = p := by omega
          have t2 : decide ((a : Int) < (a : Int)) = false := by simp
          have c0 := (BWX.out.cell (p := ⟨b, o + i * 3, none⟩) HBO.out).trans CW0.out
          have MKC := Lib.hid (MK.out _ wx hS.out.lists)
          have RX := Lib.hid (hR.out.below hS.out.be)
          clear hS hR MK
          go_wp2_with fail
          refine MKC.out.mono ?_
          rintro e w4 ⟨v4, rfl, r4, b4⟩
          have RX4 := Lib.hid (RX.out.below b4)
          have BW4 := Lib.hid (BWX.out.trans (b4.mono BWX.out.size))
          have FT : Hid (Free v4 (.slice q k cq) w4) := Lib.hid ⟨by
            cases hq : v4.ownBlock with
            | none => exact .inl rfl
            | some g =>
              refine .inr fun e => ?_
              have h1 := (World.ownsRow.there r4 hq).1
              have h2 := (World.ownsRow.there RX.out.row e.symm).2
              omega, fun g e => (World.ownsRow.there r4 e).2⟩
          have NT : Hid (NodesAt w4 v4 (declN d)) := Lib.hid (SliceAt.of_owns r4)
          obtain ⟨tq, tc, rfl⟩ := nodes_form2 NT.out
          obtain ⟨tn, htn⟩ : ∃ tn, tn = (declN d).length := ⟨_, rfl⟩
          rw [← htn] at NT FT ⊢
          have HTL := Lib.hid htn
          clear b4 r4 RX MKC c0 c1
          go_wp2
          go_loopw [3, 8] (fun s3 s8 wr => ∃ (j k : Nat) (q : Option Addr) (cq : Nat) (sl : List Sg), j ≤ m ∧ s8 = .int .i64 j ∧ s3 = .slice q k cq ∧ Hid (RQ w q k cq sl (sigL (pairsOf (ds.take i)) ++ (d.cons.take j).map fun c => (c.name, arrN c.args (declN d))) wr) ∧ Hid (NodesAt wr (.slice tq tn tc) (declN d) ∧ Free (.slice tq tn tc) (.slice q k cq) wr)) (fun _ s8 _ => m - (intOf s8).toNat)
          case atStart => exact ⟨0, k, q, cq, sl, Nat.zero_le _, rfl, rfl, Lib.hid (by simpa using RX4.out), Lib.hid ⟨NT.out, FT.out⟩⟩
          case round =>
            clear RX4 NT FT BW4 BWX
            obtain ⟨wy, hwy⟩ : ∃ wy : World, wy = wr := ⟨_, rfl⟩
            subst hwy
            obtain ⟨j, k, q, cq, sl, hj, rfl, rfl, hR, hT⟩ := hrel
            have c2 := (hR.out.be.cell (p := ⟨b, o + i * 3 + 2, none⟩) HBO.out).trans CW.out
            by_cases hlt3 : j < m
            · have t3 : decide ((j : Int) < (m : Int)) = true := by simpa using hlt3
              obtain ⟨b2, o2, c2', e2, hb2, kw0, kw⟩ := CF.out.cell j (by rw [← HM.out]; exact hlt3)
              rw [ECV.out] at e2
              simp only [Value.slice.injEq] at e2
              obtain ⟨rfl, -, -⟩ := e2
              have CM := getD_mem d.cons j (by rw [← HM.out]; exact hlt3)
              have LA0 := CF.out.2 _ CM
              have FCT := FC3.out _ CM
              have TK := Lib.hid (show d.cons.take (j + 1) = d.cons.take j ++ [d.cons.getD j default] by rw [List.take_succ_eq_append_getElem (by rw [← HM.out]; exact hlt3), List.getD_eq_getElem?_getD, List.getElem?_eq_getElem (by rw [← HM.out]; exact hlt3)]; rfl)
              have K49 : k ≤ 4900 := by
                have h1 := congrArg List.length hR.out.sgs
                rw [List.length_map, ← hR.out.len, List.length_append, List.length_map, List.length_take] at h1
                omega
              obtain ⟨ct, hct⟩ : ∃ ct, ct = d.cons.getD j default := ⟨_, rfl⟩
              rw [← hct] at kw0 kw LA0 FCT TK
              obtain ⟨aq, ac, eav⟩ := LA0.form
              obtain ⟨z, hz⟩ : ∃ z, z = ct.args.length := ⟨_, rfl⟩
              rw [← hz] at eav
              rw [eav] at kw LA0
              obtain ⟨cn, hcn⟩ : ∃ cn, cn = ct.name := ⟨_, rfl⟩
              rw [← hcn] at kw0
              have HCN := Lib.hid hcn
              have AR : Hid (∀ W, Below w.heap.size w W → NodesAt W (.slice tq tn tc) (declN d) → Calls Tryz.prog 34 #[.slice aq z ac, .slice tq tn tc] W (ArO W (.slice tq tn tc) (arrN ct.args (declN d)))) := Lib.hid fun W hW hn => rarrowO_any (declN d) ct.args _ _ W (LA0.below hW) hn (by
                have h1 := arrN_few ct.args (declN d) fun t ht => (FCT.2.2 t ht).1
                have h2 := FCT.2.1
                have h3 := DL.out
                omega)
              have WS : Hid (∀ X, Below w.heap.size w X → X.cell? ⟨b, o + i * 3 + 2, none⟩ = some (.slice (some ⟨b2, o2, none⟩) m lc2) ∧ X.cell? ⟨b2, o2 + j * 2, none⟩ = some (.string cn) ∧ X.cell? ⟨b2, o2 + j * 2 + 1, none⟩ = some (.slice aq z ac)) := Lib.hid fun X hb =>
                ⟨(hb.cell (p := ⟨b, o + i * 3 + 2, none⟩) HBO.out).trans CW.out, (hb.cell (p := ⟨b2, o2 + j * 2, none⟩) hb2).trans kw0, (hb.cell (p := ⟨b2, o2 + j * 2 + 1, none⟩) hb2).trans kw⟩
              have SS : Hid (∀ X, Below wy.heap.size wy X → X.cell? ⟨b, o + i * 3 + 2, none⟩ = some (.slice (some ⟨b2, o2, none⟩) m lc2) ∧ X.cell? ⟨b2, o2 + j * 2, none⟩ = some (.string cn) ∧ X.cell? ⟨b2, o2 + j * 2 + 1, none⟩ = some (.slice aq z ac)) := Lib.hid fun X hX => WS.out X (hR.out.be.trans (hX.mono hR.out.be.size))
              obtain ⟨ns, hns⟩ : ∃ ns, ns = arrN ct.args (declN d) := ⟨_, rfl⟩
              rw [← hns] at AR
              have HNS := Lib.hid hns
              have RO : Hid (∀ X, Below wy.heap.size wy X → X.ownsRow w.heap.size 106 2 (.slice q k cq) k (sl.flatMap Sg.cells) ∧ w.heap.size ≤ X.heap.size) := Lib.hid fun X hX => ⟨(hR.out.below hX).row, (hR.out.below hX).be.size⟩
              have HK : Hid (k + 1 ≤ maxLen ∧ (k + 1) * 40 ≤ 140737488355328 ∧ (sl.flatMap Sg.cells).length = k * 2) := Lib.hid (by rw [hR.out.len] at K49 ⊢; exact ⟨by unfold maxLen; omega, by omega, cells2_len sl⟩)
              have FIN : Hid (∀ w4 w5 fq fm fc p' cap', Below wy.heap.size wy w4 → NodesAt w4 (.slice fq fm fc) ns → ((.slice fq fm fc : Value) = .slice tq tn tc ∨ ∀ g, (Value.slice fq fm fc).ownBlock = some g → wy.heap.size ≤ g ∧ g < w4.heap.size) → (w4.alloc (.cells #[.string cn, .slice fq fm fc] 106)).grownBy w5 (Value.slice q k cq).ownBlock → ((Value.slice p' (k + 1) cap').ownBlock = (Value.slice q k cq).ownBlock ∨ (Value.slice p' (k + 1) cap').ownBlock = some (w4.alloc (.cells #[.string cn, .slice fq fm fc] 106)).heap.size) → w5.ownsRow w.heap.size 106 2 (.slice p' (k + 1) cap') (k + 1) (sl.flatMap Sg.cells ++ [.string cn, .slice fq fm fc]) →
                  ∃ sl', RQ w p' (k + 1) cap' sl' (sigL (pairsOf (ds.take i)) ++ (d.cons.take (j + 1)).map fun c => (c.name, arrN c.args (declN d))) w5 ∧ NodesAt w5 (.slice tq tn tc) (declN d) ∧ Free (.slice tq tn tc) (.slice p' (k + 1) cap') w5) := Lib.hid fun w4 w5 fq fm fc p' cap' b4 n4 f4 g hbk hr => by
                have f4' : Free (.slice fq fm fc) (.slice q k cq) w4 := by
                  rcases f4 with e | f4
                  · rw [e]; exact hT.out.2.below b4.size
                  · refine ⟨?_, fun g e => (f4 g e).2⟩
                    cases hq : (Value.slice fq fm fc).ownBlock with
                    | none => exact .inl rfl
                    | some g =>
                      refine .inr fun e => ?_
                      have h1 := (f4 g hq).1
                      have h2 := (World.ownsRow.there hR.out.row e.symm).2
                      omega
                obtain ⟨r1, r2⟩ := hR.out.push b4 n4 f4' g hbk hr
                have eL : (sigL (pairsOf (ds.take i)) ++ (d.cons.take j).map fun c => (c.name, arrN c.args (declN d))) ++ [(cn, ns)] = sigL (pairsOf (ds.take i)) ++ (d.cons.take (j + 1)).map fun c => (c.name, arrN c.args (declN d)) := by
                  rw [TK.out, List.map_append, ← List.append_assoc, HCN.out, HNS.out]
                  rfl
                rw [eL] at r1
                exact ⟨_, r1, r2 _ _ hT.out.1 hT.out.2⟩
              obtain ⟨x0, x1, x2⟩ := SS.out wy (Below.refl _ _)
              have BE := Lib.hid hR.out.be
              have HTN := Lib.hid hT.out.1
              clear hct eav hz hb2 kw0 kw CM LA0 FCT hcn hns hR hT K49 c2 TK HCN HNS
              have DR : Hid (Below w.heap.size w wy.drew ∧ NodesAt wy.drew (.slice tq tn tc) (declN d)) := Lib.hid ⟨BE.out.drew, HTN.out.below ((Below.refl _ _).drew)⟩
              go_wp2
              refine wp_region_held_drew (S := fun X => X.cell? ⟨b, o + i * 3 + 2, none⟩ = some (.slice (some ⟨b2, o2, none⟩) m lc2) ∧ X.cell? ⟨b2, o2 + j * 2, none⟩ = some (.string cn) ∧ X.cell? ⟨b2, o2 + j * 2 + 1, none⟩ = some (.slice aq z ac)) (by kernel_rfl) (SS.out _ ((Below.refl _ _).drew)) ?_
              intro hHeld
              clear x0 x1 x2
              refine wpAnyH_take (i := 0) (oi := { dst := some 50, op := Op.move (Operand.tmp 3), type := 45, pos := "ref.go:128", after := #[], guard := none }) (v := ?_) rfl (by kernel_rfl) (by kernel_rfl) (by kernel_rfl) (fun _ _ _ h => h) (Or.inl ⟨by rfl, ?_⟩) hHeld ?_
              rotate_left
              · intro w hSw; (try dsimp only at hSw); go_simp; try with_reducible rfl
              try simp only [Act.put, List.setIfInBounds_toArray, List.set_cons_zero, List.set_cons_succ]
              refine wpAnyH_take (i := 1) (oi := { dst := some 51, op := Op.move (Operand.tmp 0), type := 42, pos := "ref.go:128", after := #[], guard := none }) (v := ?_) rfl (by kernel_rfl) (by kernel_rfl) (by kernel_rfl) (fun _ _ _ h => h) (Or.inl ⟨by rfl, ?_⟩) hHeld ?_
              rotate_left
              · intro w hSw; (try dsimp only at hSw); go_simp; try with_reducible rfl
              try simp only [Act.put, List.setIfInBounds_toArray, List.set_cons_zero, List.set_cons_succ]
              refine wpAnyH_take (i := 2) (oi := { dst := some 52, op := Op.move (Operand.tmp 4), type := 3, pos := "ref.go:128", after := #[], guard := none }) (v := ?_) rfl (by kernel_rfl) (by kernel_rfl) (by kernel_rfl) (fun _ _ _ h => h) (Or.inl ⟨by rfl, ?_⟩) hHeld ?_
              rotate_left
              · intro w hSw; (try dsimp only at hSw); go_simp; try with_reducible rfl
              try simp only [Act.put, List.setIfInBounds_toArray, List.set_cons_zero, List.set_cons_succ]
              refine wpAnyH_take (i := 3) (oi := { dst := some 53, op := Op.indexAddr 42 (Operand.tmp 51) (Operand.tmp 52), type := 0, pos := "ref.go:128", after := #[{ on := 1, ground := Ground.data }, { on := 2, ground := Ground.data }], guard := none }) (v := ?_) rfl (by kernel_rfl) (by kernel_rfl) (by kernel_rfl) (fun _ _ _ h => h) (Or.inl ⟨by rfl, ?_⟩) hHeld ?_
              rotate_left
              · intro w hSw; (try dsimp only at hSw); go_simp; try with_reducible rfl
              try simp only [Act.put, List.setIfInBounds_toArray, List.set_cons_zero, List.set_cons_succ]
              refine wpAnyH_take (i := 4) (oi := { dst := some 54, op := Op.fieldAddr 110 (Operand.tmp 53) 2, type := 0, pos := "ref.go:128", after := #[{ on := 3, ground := Ground.data }], guard := none }) (v := ?_) rfl (by kernel_rfl) (by kernel_rfl) (by kernel_rfl) (fun _ _ _ h => h) (Or.inl ⟨by rfl, ?_⟩) hHeld ?_
              rotate_left
              · intro w hSw; (try dsimp only at hSw); go_simp; try with_reducible rfl
              try simp only [Act.put, List.setIfInBounds_toArray, List.set_cons_zero, List.set_cons_succ]
              refine wpAnyH_take (i := 5) (oi := { dst := some 55, op := Op.load 107 (Operand.tmp 54), type := 107, pos := "ref.go:128", after := #[{ on := 4, ground := Ground.data }], guard := none }) (v := ?_) rfl (by kernel_rfl) (by kernel_rfl) (by kernel_rfl) (fun _ _ _ h => h) (Or.inl ⟨by rfl, ?_⟩) hHeld ?_
              rotate_left
              · intro w hSw; (try dsimp only at hSw); go_simp; try with_reducible rfl
              try simp only [Act.put, List.setIfInBounds_toArray, List.set_cons_zero, List.set_cons_succ]
              refine wpAnyH_take (i := 6) (oi := { dst := some 56, op := Op.move (Operand.tmp 8), type := 3, pos := "ref.go:128", after := #[], guard := none }) (v := ?_) rfl (by kernel_rfl) (by kernel_rfl) (by kernel_rfl) (fun _ _ _ h => h) (Or.inl ⟨by rfl, ?_⟩) hHeld ?_
              rotate_left
              · intro w hSw; (try dsimp only at hSw); go_simp; try with_reducible rfl
              try simp only [Act.put, List.setIfInBounds_toArray, List.set_cons_zero, List.set_cons_succ]
              refine wpAnyH_take (i := 7) (oi := { dst := some 57, op := Op.indexAddr 107 (Operand.tmp 55) (Operand.tmp 56), type := 0, pos := "ref.go:128", after := #[{ on := 5, ground := Ground.data }, { on := 6, ground := Ground.data }], guard := none }) (v := ?_) rfl (by kernel_rfl) (by kernel_rfl) (by kernel_rfl) (fun _ _ _ h => h) (Or.inl ⟨by rfl, ?_⟩) hHeld ?_
              rotate_left
              · intro w hSw; (try dsimp only at hSw); go_simp; try with_reducible rfl
              try simp only [Act.put, List.setIfInBounds_toArray, List.set_cons_zero, List.set_cons_succ]
              refine wpAnyH_take (i := 8) (oi := { dst := some 58, op := Op.fieldAddr 112 (Operand.tmp 57) 0, type := 0, pos := "ref.go:128", after := #[{ on := 7, ground := Ground.data }], guard := none }) (v := ?_) rfl (by kernel_rfl) (by kernel_rfl) (by kernel_rfl) (fun _ _ _ h => h) (Or.inl ⟨by rfl, ?_⟩) hHeld ?_
              rotate_left
              · intro w hSw; (try dsimp only at hSw); go_simp; try with_reducible rfl
              try simp only [Act.put, List.setIfInBounds_toArray, List.set_cons_zero, List.set_cons_succ]
              refine wpAnyH_take (i := 9) (oi := { dst := some 59, op := Op.load 9 (Operand.tmp 58), type := 9, pos := "ref.go:128", after := #[{ on := 8, ground := Ground.data }], guard := none }) (v := ?_) rfl (by kernel_rfl) (by kernel_rfl) (by kernel_rfl) (fun _ _ _ h => h) (Or.inl ⟨by rfl, ?_⟩) hHeld ?_
              rotate_left
              · intro w hSw; (try dsimp only at hSw); go_simp; try with_reducible rfl
              try simp only [Act.put, List.setIfInBounds_toArray, List.set_cons_zero, List.set_cons_succ]
              refine wpAnyH_take (i := 10) (oi := { dst := some 60, op := Op.move (Operand.tmp 0), type := 42, pos := "ref.go:128", after := #[], guard := none }) (v := ?_) rfl (by kernel_rfl) (by kernel_rfl) (by kernel_rfl) (fun _ _ _ h => h) (Or.inl ⟨by rfl, ?_⟩) hHeld ?_
              rotate_left
              · intro w hSw; (try dsimp only at hSw); go_simp; try with_reducible rfl
              try simp only [Act.put, List.setIfInBounds_toArray, List.set_cons_zero, List.set_cons_succ]
              refine wpAnyH_take (i := 11) (oi := { dst := some 61, op := Op.move (Operand.tmp 4), type := 3, pos := "ref.go:128", after := #[], guard := none }) (v := ?_) rfl (by kernel_rfl) (by kernel_rfl) (by kernel_rfl) (fun _ _ _ h => h) (Or.inl ⟨by rfl, ?_⟩) hHeld ?_
              rotate_left
              · intro w hSw; (try dsimp only at hSw); go_simp; try with_reducible rfl
              try simp only [Act.put, List.setIfInBounds_toArray, List.set_cons_zero, List.set_cons_succ]
              refine wpAnyH_take (i := 12) (oi := { dst := some 62, op := Op.indexAddr 42 (Operand.tmp 60) (Operand.tmp 61), type := 0, pos := "ref.go:128", after := #[{ on := 10, ground := Ground.data }, { on := 11, ground := Ground.data }], guard := none }) (v := ?_) rfl (by kernel_rfl) (by kernel_rfl) (by kernel_rfl) (fun _ _ _ h => h) (Or.inl ⟨by rfl, ?_⟩) hHeld ?_
              rotate_left
              · intro w hSw; (try dsimp only at hSw); go_simp; try with_reducible rfl
              try simp only [Act.put, List.setIfInBounds_toArray, List.set_cons_zero, List.set_cons_succ]
              refine wpAnyH_take (i := 13) (oi := { dst := some 63, op := Op.fieldAddr 110 (Operand.tmp 62) 2, type := 0, pos := "ref.go:128", after := #[{ on := 12, ground := Ground.data }], guard := none }) (v := ?_) rfl (by kernel_rfl) (by kernel_rfl) (by kernel_rfl) (fun _ _ _ h => h) (Or.inl ⟨by rfl, ?_⟩) hHeld ?_
              rotate_left
              · intro w hSw; (try dsimp only at hSw); go_simp; try with_reducible rfl
              try simp only [Act.put, List.setIfInBounds_toArray, List.set_cons_zero, List.set_cons_succ]
              refine wpAnyH_take (i := 14) (oi := { dst := some 64, op := Op.load 107 (Operand.tmp 63), type := 107, pos := "ref.go:128", after := #[{ on := 13, ground := Ground.data }], guard := none }) (v := ?_) rfl (by kernel_rfl) (by kernel_rfl) (by kernel_rfl) (fun _ _ _ h => h) (Or.inl ⟨by rfl, ?_⟩) hHeld ?_
              rotate_left
              · intro w hSw; (try dsimp only at hSw); go_simp; try with_reducible rfl
              try simp only [Act.put, List.setIfInBounds_toArray, List.set_cons_zero, List.set_cons_succ]
              refine wpAnyH_take (i := 15) (oi := { dst := some 65, op := Op.move (Operand.tmp 8), type := 3, pos := "ref.go:128", after := #[], guard := none }) (v := ?_) rfl (by kernel_rfl) (by kernel_rfl) (by kernel_rfl) (fun _ _ _ h => h) (Or.inl ⟨by rfl, ?_⟩) hHeld ?_
              rotate_left
              · intro w hSw; (try dsimp only at hSw); go_simp; try with_reducible rfl
              try simp only [Act.put, List.setIfInBounds_toArray, List.set_cons_zero, List.set_cons_succ]
              refine wpAnyH_take (i := 16) (oi := { dst := some 66, op := Op.indexAddr 107 (Operand.tmp 64) (Operand.tmp 65), type := 0, pos := "ref.go:128", after := #[{ on := 14, ground := Ground.data }, { on := 15, ground := Ground.data }], guard := none }) (v := ?_) rfl (by kernel_rfl) (by kernel_rfl) (by kernel_rfl) (fun _ _ _ h => h) (Or.inl ⟨by rfl, ?_⟩) hHeld ?_
              rotate_left
              · intro w hSw; (try dsimp only at hSw); go_simp; try with_reducible rfl
              try simp only [Act.put, List.setIfInBounds_toArray, List.set_cons_zero, List.set_cons_succ]
              refine wpAnyH_take (i := 17) (oi := { dst := some 67, op := Op.fieldAddr 112 (Operand.tmp 66) 1, type := 0, pos := "ref.go:128", after := #[{ on := 16, ground := Ground.data }], guard := none }) (v := ?_) rfl (by kernel_rfl) (by kernel_rfl) (by kernel_rfl) (fun _ _ _ h => h) (Or.inl ⟨by rfl, ?_⟩) hHeld ?_
              rotate_left
              · intro w hSw; (try dsimp only at hSw); go_simp; try with_reducible rfl
              try simp only [Act.put, List.setIfInBounds_toArray, List.set_cons_zero, List.set_cons_succ]
              refine wpAnyH_take (i := 18) (oi := { dst := some 68, op := Op.load 50 (Operand.tmp 67), type := 50, pos := "ref.go:128", after := #[{ on := 17, ground := Ground.data }], guard := none }) (v := ?_) rfl (by kernel_rfl) (by kernel_rfl) (by kernel_rfl) (fun _ _ _ h => h) (Or.inl ⟨by rfl, ?_⟩) hHeld ?_
              rotate_left
              · intro w hSw; (try dsimp only at hSw); go_simp; try with_reducible rfl
              try simp only [Act.put, List.setIfInBounds_toArray, List.set_cons_zero, List.set_cons_succ]
              refine wpAnyH_take (i := 19) (oi := { dst := some 69, op := Op.move (Operand.tmp 7), type := 22, pos := "ref.go:128", after := #[], guard := none }) (v := ?_) rfl (by kernel_rfl) (by kernel_rfl) (by kernel_rfl) (fun _ _ _ h => h) (Or.inl ⟨by rfl, ?_⟩) hHeld ?_
              rotate_left
              · intro w hSw; (try dsimp only at hSw); go_simp; try with_reducible rfl
              try simp only [Act.put, List.setIfInBounds_toArray, List.set_cons_zero, List.set_cons_succ]
              refine wpAnyH_ready (rs := [20]) (by kernel_rfl) (by simp) ?_
              refine AllReadyH.cons (o := { dst := some 70, op := Op.call { callee := Callee.value (Operand.func 34), args := #[Operand.tmp 68, Operand.tmp 69], argTypes := #[50, 22] }, type := 22, pos := "ref.go:128", after := #[{ on := 18, ground := Ground.data }, { on := 19, ground := Ground.data }], guard := none }) rfl (fun K hK => ?_) AllReadyH.nil
              refine step_call_fn_if (by rfl) 34 #[.tmp 68, .tmp 69] #[50, 22] (by rfl) callAw #[.slice aq z ac, .slice tq tn tc] (by simp [go_sem]; exact HTL.out.symm) ?_
              refine Calls.mono (AR.out _ DR.out.1 DR.out.2) ?_
              rintro e w4 ⟨v4, rfl, n4, b4, f4⟩
              refine ⟨_, rfl, ?_⟩
              obtain ⟨fq4, fc4, rfl⟩ := nodes_form2 n4
              have N4 := Lib.hid n4
              have F4 := Lib.hid f4
              have B4 := Lib.hid (drew_first b4)
              clear n4 b4 f4
              refine hK.out _ _ (SS.out w4 B4.out) (fun hHeld => ?_)
              clear hK K
              simp only [Act.put, List.setIfInBounds_toArray, List.set_cons_zero, List.set_cons_succ]
              refine wpAnyH_take (i := 21) (oi := { dst := some 71, op := Op.build 106 #[(0, Operand.tmp 59), (1, Operand.tmp 70)], type := 106, pos := "ref.go:128", after := #[{ on := 9, ground := Ground.data }, { on := 20, ground := Ground.data }], guard := none }) (v := ?_) rfl (by kernel_rfl) (by kernel_rfl) (by kernel_rfl) (fun _ _ _ h => h) (Or.inl ⟨by rfl, ?_⟩) hHeld ?_
              rotate_left
              · intro w hSw; (try dsimp only at hSw); go_simp; try with_reducible rfl
              try simp only [Act.put, List.setIfInBounds_toArray, List.set_cons_zero, List.set_cons_succ]
              refine wpAnyH_ready (rs := [22]) (by kernel_rfl) (by simp) ?_
              refine AllReadyH.cons (o := { dst := some 72, op := Op.buildSlice 45 1 #[(0, Operand.tmp 71)], type := 45, pos := "ref.go:128", after := #[{ on := 21, ground := Ground.data }], guard := none }) rfl (fun K hK => ?_) AllReadyH.nil
              go_simp
              refine hK.out _ _ (SS.out _ (B4.out.trans (box_keep' B4.out.size _))) (fun hHeld => ?_)
              clear hK K
              try simp only [Act.put, List.setIfInBounds_toArray, List.set_cons_zero, List.set_cons_succ]
              refine wpAnyH_ready (rs := [23]) (by kernel_rfl) (by simp) ?_
              refine AllReadyH.cons (o := { dst := some 73, op := Op.call { callee := Callee.builtin Builtin.append, args := #[Operand.tmp 50, Operand.tmp 72], argTypes := #[45, 45] }, type := 45, pos := "ref.go:128", after := #[{ on := 0, ground := Ground.data }, { on := 22, ground := Ground.data }, { on := 20, ground := Ground.chain }], guard := none }) rfl (fun K hK => ?_) AllReadyH.nil
              refine step_append_any (by rfl) _ _ 45 (by rfl) w.heap.size 106 j0 (.agg #[.string ⟨#[]⟩, .slice none 0 0]) 2 40 Tryz.underlying45 HJ.out.1 HJ.out.2.1 HJ.out.2.2.1 HJ.out.2.2.2 rfl (by decide) (.slice q k cq) k (sl.flatMap Sg.cells) rfl (RO.out _ (B4.out.trans (box_keep' B4.out.size _))).1 (some ⟨w4.heap.size, 0, none⟩) 1 1 [.string cn, .slice fq4 ns.length fc4] rfl rfl (fun _ => ⟨_, rfl, CellsIn.at (lit_at w4 _ _)⟩) (by intro u hu; simp at hu; rcases hu with rfl | rfl <;> rfl) HK.out.1 HK.out.2.1 (RO.out _ (B4.out.trans (box_keep' B4.out.size _))).2 ?_
              intro p' cap' w5 hown hgrow hblk
              have RN := Lib.hid hown
              have GN := Lib.hid hgrow
              have HBK := Lib.hid hblk
              clear hown hgrow hblk
              obtain ⟨sl', r1, r2⟩ := FIN.out w4 w5 _ _ _ _ _ B4.out N4.out F4.out GN.out HBK.out RN.out
              have R1 := Lib.hid r1
              have R2 := Lib.hid r2
              clear r1 r2 FIN AR RO
              refine hK.out _ _ (WS.out _ R1.out.be) (fun hHeld => ?_)
              clear hK K SS WS
              try simp only [Act.put, List.setIfInBounds_toArray, List.set_cons_zero, List.set_cons_succ]
              refine wpAnyH_take (i := 24) (oi := { dst := some 3, op := Op.assign (Operand.tmp 73), type := 45, pos := "ref.go:128", after := #[{ on := 23, ground := Ground.data }, { on := 23, ground := Ground.chain }, { on := 0, ground := Ground.phase }, { on := 1, ground := Ground.phase }, { on := 2, ground := Ground.phase }, { on := 3, ground := Ground.phase }, { on := 4, ground := Ground.phase }, { on := 5, ground := Ground.phase }, { on := 6, ground := Ground.phase }, { on := 7, ground := Ground.phase }, { on := 8, ground := Ground.phase }, { on := 9, ground := Ground.phase }, { on := 10, ground := Ground.phase }, { on := 11, ground := Ground.phase }, { on := 12, ground := Ground.phase }, { on := 13, ground := Ground.phase }, { on := 14, ground := Ground.phase }, { on := 15, ground := Ground.phase }, { on := 16, ground := Ground.phase }, { on := 17, ground := Ground.phase }, { on := 18, ground := Ground.phase }, { on := 19, ground := Ground.phase }, { on := 20, ground := Ground.phase }, { on := 21, ground := Ground.phase }, { on := 22, ground := Ground.phase }, { on := 23, ground := Ground.phase }], guard := none }) (v := ?_) rfl (by kernel_rfl) (by kernel_rfl) (by kernel_rfl) (fun _ _ _ h => h) (Or.inl ⟨by rfl, ?_⟩) hHeld ?_
              rotate_left
              · intro w hSw; (try dsimp only at hSw); go_simp; try with_reducible rfl
              try simp only [Act.put, List.setIfInBounds_toArray, List.set_cons_zero, List.set_cons_succ]
              refine wpAnyH_done (by kernel_rfl) ?_ _
              clear hHeld
              go_wp2
              go_roundw
              case rel => exact ⟨j + 1, k + 1, p', cap', sl', hlt3, by go_num, rfl, R1, R2⟩
              case measure => simp [intOf]; omega
            · obtain rfl : j = m := by omega
              have t3 : decide ((j : Int) < (j : Int)) = false := by simp
              have R5 : Hid (RQ w q k cq sl (sigL (pairsOf (ds.take (i + 1)))) wy) := Lib.hid (by have := hR.out; rw [HM.out, List.take_length] at this; rw [TAKEI.out]; exact this)
              clear hR hT CF TAKEI
              go_wp2
              go_roundw
              case rel => exact ⟨i + 1, k, q, cq, sl, hlt, by go_num, rfl, R5⟩
              case measure => simp [intOf]; omega
    · obtain rfl : i = n := by omega
      have t1 : decide ((i : Int) < (i : Int)) = false := by simp
      have F := Lib.hid (E.out q k cq sl wo hR.out)
      clear hR
      go_wp2
      first | go_ret | skip
      exact F.out
end Go.Proofs.YtncifeeinogcnaaGreatDoor
