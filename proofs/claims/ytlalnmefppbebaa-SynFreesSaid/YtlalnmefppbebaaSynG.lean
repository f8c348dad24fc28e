/- The contract of visit. -/
import Derived.Test.YtlalnmefppbebaaSynF
namespace Go
/-- A row of the call's own cut at its end is one. -/
theorem World.ownsRow.pop {w : World} {base : Nat} {e : TypeId} {size n : Nat} {p : Option Addr} {c m : Nat} {xs : List Value} (h : w.ownsRow base e size (.slice p n c) n xs) (hp : ∃ g, p = some ⟨g, 0, none⟩) (hm : m ≤ n) : w.ownsRow base e size (.slice p m c) m (xs.take (m * size)) := by
  obtain ⟨g0, rfl⟩ := hp
  obtain ⟨h1, h2⟩ := h
  have hms : m * size ≤ n * size := Nat.mul_le_mul_right _ hm
  refine ⟨by rw [List.length_take, h1]; omega, ?_⟩
  rcases h2 with ⟨hv, _⟩ | ⟨g, cap, cur, hv, hb, hg, hn, hcm, hs, ht⟩
  · simp at hv
  · simp only [Value.slice.injEq, Option.some.injEq, Addr.mk.injEq, true_and, and_true] at hv
    obtain ⟨rfl, rfl⟩ := hv
    refine .inr ⟨_, _, cur, rfl, hb, hg, by omega, hcm, hs, ?_⟩
    rw [← ht, List.take_take, show min (m * size) (n * size) = m * size by omega]
end Go
namespace Go.Proofs.Ytlalnmefppbebaa
open Go.RowKit Go.Proofs.TreeMath
def PRow (base : Nat) (w : World) (v : Value) (xs : List Int) : Prop := w.ownsRow base 49 1 v xs.length (intCells xs)
theorem infoPlace : ∃ i, Try.prog.info? 49 = some i ∧ i.zero = some (.int .i64 0) ∧ i.size = 1 ∧ i.bytes = 8 := info_of' (by kernel_rfl)
theorem PRow.after {base : Nat} {w w' : World} {v : Value} {fs : List Int} (h : PRow base w v fs) (b : Below w.heap.size w w') : PRow base w' v fs := World.ownsRow.keep h fun g hg => b.block g (World.ownsRow.there h hg).2
/-- Its form where it holds something. -/
theorem PRow.form {base : Nat} {w : World} {v : Value} {xs : List Int} (h : PRow base w v xs) (h0 : 0 < xs.length) : ∃ g c, v = .slice (some ⟨g, 0, none⟩) xs.length c ∧ xs.length ≤ c ∧ c ≤ maxLen ∧ base ≤ g ∧ g < w.heap.size ∧ CellsIn w g 0 (intCells xs) := by
  have hs : SliceAt w 1 v xs.length (intCells xs) := SliceAt.of_owns h
  obtain ⟨_, p, c, rfl, hnc, hcm, hp⟩ := hs
  obtain ⟨b, off, rfl, hb, hc⟩ := hp (by omega)
  rcases h.2 with ⟨hv, _⟩ | ⟨g, cap, cur, hv, hbg, hg, _⟩
  · simp at hv
  · simp only [Value.slice.injEq, Option.some.injEq, Addr.mk.injEq, true_and] at hv
    obtain ⟨⟨rfl, rfl, _⟩, rfl⟩ := hv
    exact ⟨b, c, rfl, hnc, hcm, hbg, hb, hc⟩
theorem PRow.box {base bx : Nat} {w : World} {v : Value} {xs : List Int} {k m d : Int} {s : ByteArray} (h : PRow base w v xs) (hx : w.heap[bx]? = some (nodeObj k s m d)) : v.ownBlock ≠ some bx := by
  intro e
  rcases h.2 with ⟨rfl, _⟩ | ⟨g, cap, cur, rfl, hbg, hg, _⟩
  · cases e
  · simp [Value.ownBlock] at e
    subst e
    rw [hx] at hg
    simp [nodeObj] at hg
theorem place_new (w : World) (p : Int) : PRow w.heap.size (w.alloc (.cells #[.int .i64 p] 49)) (.slice (some ⟨w.heap.size, 0, none⟩) 1 1) [p] := by
  refine ⟨rfl, .inr ⟨_, 1, #[.int .i64 p], rfl, Nat.le_refl _, ?_, Nat.le_refl _, by unfold maxLen; omega, rfl, rfl⟩⟩
  show (w.heap.push _)[w.heap.size]? = _
  simp
theorem box_next {w w1 : World} {k m d : Int} {s : ByteArray} (h : Below (w.alloc (nodeObj k s m d)).heap.size (w.alloc (nodeObj k s m d)) w1) : w1.heap[w.heap.size]? = some (nodeObj k s m d) := by
  rw [h.block _ (by simp)]
  show (w.heap.push _)[w.heap.size]? = _
  simp
theorem box_of {w : World} {bx : Nat} {k m d : Int} {s : ByteArray} (hb : w.heap[bx]? = some (nodeObj k s m d)) :
    w.cell? ⟨bx, 0, none⟩ = some (.int .i64 k) ∧ w.cell? ⟨bx, 1, none⟩ = some (.string s) ∧ w.cell? ⟨bx, 2, none⟩ = some (.int .i64 m) ∧ w.cell? ⟨bx, 3, none⟩ = some (.int .i64 d) := by
  unfold nodeObj at hb
  exact ⟨Lib.cell_of_heap hb 0, Lib.cell_of_heap hb 1, Lib.cell_of_heap hb 2, Lib.cell_of_heap hb 3⟩
theorem range_drop (f : Nat → Int) (K q : Nat) (h : q < K) : (((List.range K).drop q).map f).reverse = (((List.range K).drop (q + 1)).map f).reverse ++ [f q] := by
  have e : (List.range K).drop q = q :: (List.range K).drop (q + 1) := by
    rw [List.drop_eq_getElem_cons (by simpa using h)]
    simp
  rw [e, List.map_cons, List.reverse_cons]
theorem place_one (w : World) (x : Int) : ∀ j u, [Value.int .i64 x][j]? = some u → (w.alloc (.cells #[.int .i64 x] 49)).cell? ((⟨w.heap.size, 0, none⟩ : Addr).add j) = some u := cell_one_new w (.int .i64 x) 49
theorem drop_node (ns : List Nd) (j : Nat) (h : j < ns.length) : ns.drop j = ns.getD j default :: ns.drop (j + 1) := by
  rw [List.drop_eq_getElem_cons h, List.getD_eq_getElem?_getD, List.getElem?_eq_getElem h]
  rfl
theorem vis_cons (see : Nat → Int → Int) (ns : List Nd) (j : Nat) (p : Int) (st : List Int) (h : j < ns.length) :
    visL see (ns.drop j) j (p :: st) = or_ (see j p) (visL see (ns.drop (j + 1)) (j + 1) ((List.range (ns.getD j default).kids.toNat).map (belowP p (ns.getD j default).kind) ++ st)) := by
  rw [drop_node ns j h]
  rfl
theorem vis_end (see : Nat → Int → Int) (ns : List Nd) (j : Nat) (st : List Int) (h : ns.length ≤ j) : visL see (ns.drop j) j st = 0 := by
  rw [List.drop_eq_nil_of_le h]
  rfl
theorem scan_open (ns : List Nd) (j o : Nat) (h : scan (kk (ns.drop j)) o = some (ns.length - j)) (hj : j < ns.length) : ∃ o', o = o' + 1 ∧ 0 ≤ (ns.getD j default).kids ∧ scan (kk (ns.drop (j + 1))) (o' + (ns.getD j default).kids.toNat) = some (ns.length - (j + 1)) := by
  cases o with
  | zero => rw [scan_zero] at h; simp at h; omega
  | succ o =>
    refine ⟨o, rfl, ?_⟩
    rw [drop_node ns j hj, kk_cons, scan_cons] at h
    split at h
    · simp at h
    · rename_i hk
      refine ⟨by omega, ?_⟩
      cases hs : scan (kk (ns.drop (j + 1))) (o + (ns.getD j default).kids.toNat) with
      | none => rw [hs] at h; simp at h
      | some t =>
        rw [hs] at h
        simp at h
        simp
        omega
set_option maxRecDepth 100000 in
set_option maxHeartbeats 4000000 in
theorem visit_in (b off n c : Nat) (ns : List Nd) (root : Int) (f : FuncId) (caps : Array Value) (see : Nat → Int → Int) (w : World) (hl : Hid (ns.length = n)) (hn : n ≤ 4000) (_hnc : n ≤ c) (hb : b < w.heap.size) (hc : Hid (CellsIn w b off (nodeCells ns))) (hW : Hid (wholeB (kk ns) = true))
    (hr : 0 ≤ root ∧ root ≤ 2) (hf : Hid (∀ vs w, (callFunc f vs).run Try.prog w = .ok (.enter f vs) w))
    (hsee : Hid (∀ (W : World) (i : Nat) (p : Int), Below w.heap.size w W → i < n → 0 ≤ p → p ≤ 2 → Calls Try.prog f (#[.int .i64 (i : Int), .int .i64 p] ++ caps) W (RI (see i p) W))) :
    Calls Try.prog 49 #[.slice (some ⟨b, off, none⟩) n c, .int .i64 root, .func (.func f) #[] caps] w (RI (visL see ns 0 [root]) w) := by
  obtain ⟨R, hR⟩ : ∃ R, R = visL see ns 0 [root] := ⟨_, rfl⟩
  rw [← hR]
  have HR := Lib.hid hR
  clear hR
  obtain ⟨i0, hi0, hz0, hz1, hz2⟩ := infoPlace
  have HI := Lib.hid (And.intro hi0 (And.intro hz0 (And.intro hz1 hz2)))
  clear hi0 hz0 hz1 hz2
  go_enter Try.func49, Try.ntmps49
  go_wp2
  go_loopw [7, 17] (fun s7 s17 wr => ∃ (j : Nat) (st : List Int) (nv : Value), nv = s7 ∧ j ≤ n ∧ s17 = .int .i64 (j : Int) ∧ PRow w.heap.size wr nv st.reverse ∧ Below w.heap.size w wr ∧ scan (kk (ns.drop j)) st.length = some (n - j) ∧ (∀ p ∈ st, 0 ≤ p ∧ p ≤ 2) ∧ visL see (ns.drop j) j st = R) (fun _ s17 _ => n - (intOf s17).toNat)
  case atStart =>
    refine ⟨0, [root], _, rfl, Nat.zero_le _, rfl, place_new _ _, (Below.refl _ _).alloc (Nat.le_refl _) _, ?_, ?_, HR.out.symm⟩
    · have := (wholeB_iff _).1 hW.out
      rw [length_kk, hl.out] at this
      simpa using this
    · intro p hp
      simp at hp
      subst hp
      exact hr
  case round =>
    obtain ⟨wo, hwo⟩ : ∃ wo : World, wo = wr := ⟨_, rfl⟩
    subst hwo
    obtain ⟨j, st, nv, rfl, hj, rfl, hrow, hbel, hsc, hst, hvis⟩ := hrel
    have BEL := Lib.hid hbel
    have VIS := Lib.hid hvis
    have SC := Lib.hid hsc
    have STR := Lib.hid hst
    clear hbel hvis hsc hst
    by_cases hlt : j < n
    · obtain ⟨o', ho, hk0, hsc2⟩ := scan_open ns j st.length (by rw [hl.out]; exact SC.out) (by rw [hl.out]; exact hlt)
      cases st with
      | nil => simp at ho
      | cons p st =>
      obtain rfl : st.length = o' := by simpa using ho
      rw [hl.out] at hsc2
      have hpr := STR.out p (by simp)
      have SC2 := Lib.hid hsc2
      have hle := scan_le _ _ _ SC.out
      rw [length_kk, List.length_drop, hl.out] at hle
      obtain ⟨g, rc, rfl, hrc, hrm, hbg, hgw, hcells⟩ := PRow.form hrow (by simp)
      have hlen : (p :: st).reverse.length = st.length + 1 := by simp
      have htop := hcells st.length (.int .i64 p) (by simp [intCells])
      rw [Nat.zero_add] at htop
      have VC := Lib.hid ((vis_cons see ns j p st (by rw [hl.out]; exact hlt)).symm.trans VIS.out)
      obtain ⟨c0, c1, c2, c3⟩ := (hc.out.kept (BEL.out.block b hb)).node j (by rw [hl.out]; exact hlt)
      obtain ⟨nd, hnd⟩ : ∃ nd, nd = ns.getD j default := ⟨_, rfl⟩
      rw [← hnd] at c0 c1 c2 c3 VC hk0 SC2
      clear hnd
      have POP : Hid (PRow w.heap.size wo (.slice (some ⟨g, 0, none⟩) st.length rc) st.reverse) := Lib.hid (by
        have := World.ownsRow.pop hrow ⟨g, rfl⟩ (show st.length ≤ (p :: st).reverse.length by simp)
        unfold PRow
        rw [List.length_reverse]
        have e : (intCells (p :: st).reverse).take (st.length * 1) = intCells st.reverse := by
          rw [List.reverse_cons]
          unfold intCells
          rw [List.map_append, List.take_left' (by simp)]
        rwa [e] at this)
      rw [hlen] at hrc ⊢
      obtain ⟨k, t, u, d⟩ := nd
      simp only at c0 c1 c2 c3 VC hk0 SC2
      obtain ⟨K, rfl⟩ : ∃ K : Nat, d = (K : Int) := ⟨d.toNat, by omega⟩
      rw [Int.toNat_natCast] at VC SC2
      have hKL : st.length + K ≤ 4000 := by have := scan_le _ _ _ SC2.out; omega
      clear ho hk0 hcells hlen hrow SC VIS
      obtain ⟨L, hL⟩ : ∃ L, L = st.length := ⟨_, rfl⟩
      have hL4 : L ≤ 4000 := by rw [hL]; simp at hle; omega
      rw [← hL] at hrc htop POP SC2 hKL ⊢
      have HL := Lib.hid hL
      clear hL hle
      clear hrm hsc2
      have hltz : ((j : Int) < (n : Int)) := by omega
      have hbw : b < wo.heap.size := Nat.lt_of_lt_of_le hb BEL.out.size
      have BN := Lib.hid (BEL.out.alloc BEL.out.size (nodeObj k t u (K : Int)))
      have HS := Lib.hid (hsee.out _ j p BN.out hlt hpr.1 hpr.2)
      unfold nodeObj at HS
      obtain ⟨E, hE⟩ : ∃ E, E = see j p := ⟨_, rfl⟩
      rw [← hE] at HS VC
      clear hE
      by_cases hE0 : E = 0
      · subst hE0
        have VZ := VC.out
        rw [zero_or] at VZ
        have VN := Lib.hid VZ
        clear VZ VC
        go_wp2_with ((refine wpList_call_slot (o := ⟨some 36, _, _, _, _, _⟩) rfl 33 _ _ rfl f caps rfl hf.out (#[.int .i64 (j : Int), .int .i64 p] ++ caps) (by simp [go_sem]) ?_; refine HS.out.mono ?_; rintro e w1 ⟨rfl, hs⟩; refine ⟨_, rfl, ?_⟩; simp only [Act.put, List.setIfInBounds_toArray, List.set_cons_succ, List.set_cons_zero]; have HS1 := Lib.hid hs; have BX := Lib.hid (box_next (k := k) (s := t) (m := u) (d := (K : Int)) hs); obtain ⟨q0, q1, q2, q3⟩ := box_of BX.out; clear hs))
        have B1 := Lib.hid (BN.out.trans (HS1.out.mono BN.out.size))
        have P1 : Hid (PRow w.heap.size w1 (.slice (some ⟨g, 0, none⟩) L rc) st.reverse) := Lib.hid (POP.out.after (((Below.refl _ _).alloc (Nat.le_refl _) _).trans (HS1.out.mono (by simp))))
        clear HS1 HS POP
        clear q0 q1 q2 q3 c0 c1 c2 c3 htop
        go_loopw [7, 12] (fun s7 s12 wr => ∃ (q : Nat) (z : Int) (nv : Value), nv = s7 ∧ q ≤ K ∧ z = (q : Int) - 1 ∧ s12 = .int .i64 z ∧ PRow w.heap.size wr nv (st.reverse ++ (((List.range K).drop q).map (belowP p k)).reverse) ∧ wr.heap[wo.heap.size]? = some (nodeObj k t u (K : Int)) ∧ Below w.heap.size w wr) (fun _ s12 _ => (intOf s12 + 1).toNat)
        case atStart =>
          refine ⟨K, (K : Int) - 1, _, rfl, Nat.le_refl _, rfl, rfl, ?_, BX.out, B1.out⟩
          rw [List.drop_eq_nil_of_le (by simp), List.map_nil, List.reverse_nil, List.append_nil]
          exact P1.out
        case round =>
          obtain ⟨wi, hwi⟩ : ∃ wi : World, wi = wr := ⟨_, rfl⟩
          subst hwi
          obtain ⟨q, z, nv, rfl, hq, hz, rfl, hrow, hbx, hbl⟩ := hrel
          have ROW := Lib.hid hrow
          have BX2 := Lib.hid hbx
          have BL := Lib.hid hbl
          clear hrow hbx hbl BX B1 P1
          by_cases hq0 : q = 0
          · subst hq0
            obtain rfl : z = -1 := by omega
            clear hz
            go_wp2
            refine ⟨⟨j + 1, (List.range K).map (belowP p k) ++ st, _, rfl, by omega, by go_num, ?_, BL.out, ?_, ?_, VN.out⟩, by simp [intOf]; omega⟩
            · have := ROW.out
              rwa [List.drop_zero, ← List.reverse_append] at this
            · have := SC2.out
              rw [HL.out] at this
              rw [List.length_append, List.length_map, List.length_range, Nat.add_comm K st.length]
              exact this
            · intro x hx
              rw [List.mem_append] at hx
              rcases hx with hx | hx
              · obtain ⟨y, _, rfl⟩ := List.mem_map.1 hx
                exact belowP_range p k y
              · exact STR.out x (by simp [hx])
          · obtain ⟨Q, rfl⟩ : ∃ Q, q = Q + 1 := ⟨q - 1, by omega⟩
            obtain rfl : z = (Q : Int) := by omega
            obtain ⟨b0, b1, b2, b3⟩ := box_of BX2.out
            have R1 : Hid (PRow w.heap.size (wi.alloc (.cells #[.int .i64 (belowP p k Q)] 49)) nv (st.reverse ++ (((List.range K).drop (Q + 1)).map (belowP p k)).reverse)) := Lib.hid (ROW.out.after ((Below.refl _ _).alloc (Nat.le_refl _) _))
            unfold PRow at R1
            have S1 := Lib.hid (show w.heap.size ≤ (wi.alloc (.cells #[.int .i64 (belowP p k Q)] 49)).heap.size from by have := BL.out.size; simp; omega)
            have LEN : Hid ((st.reverse ++ (((List.range K).drop (Q + 1)).map (belowP p k)).reverse).length ≤ 4000) := Lib.hid (by have := HL.out; simp; omega)
            clear hz hq0
            go_wp2_with (first
              | (go_at_call 67; refine (below_any p k Q _).mono ?_; rintro e w5 ⟨rfl, rfl⟩)
              | (at_builtin; refine wpList_append_own _ rfl _ _ 83 rfl w.heap.size 49 i0 (.int .i64 0) 1 8 Try.underlying83 HI.out.1 HI.out.2.1 HI.out.2.2.1 HI.out.2.2.2 rfl (by decide) _ _ _ rfl R1.out ⟨wi.heap.size, 0, none⟩ 1 1 [.int .i64 (belowP p k Q)] rfl rfl (place_one _ _) (intCells_one [belowP p k Q]) ?c2 ?c3 S1.out ?_; (case c2 => have := LEN.out; unfold maxLen; omega); (case c3 => have := LEN.out; omega); intro v' w3 hown' hgrow hnil; have HO3 := Lib.hid hown'; have HG := Lib.hid hgrow; clear hown' hgrow hnil)
              | go_in)
            refine ⟨⟨Q, (Q : Int) - 1, _, rfl, by omega, rfl, rfl, ?_, ?_, ?_⟩, by first | (simp [intOf]; done) | (simp [intOf]; omega)⟩
            · have h := HO3.out
              have e := range_drop (belowP p k) K Q (by omega)
              rw [e, ← List.append_assoc]
              unfold PRow
              rw [List.length_append]
              unfold intCells at h ⊢
              rw [List.map_append]
              exact h
            · have hne := PRow.box (bx := wo.heap.size) ROW.out BX2.out
              have hlt2 : wo.heap.size < wi.heap.size := (Array.getElem?_eq_some_iff.1 BX2.out).1
              rw [HG.out.block wo.heap.size (by simp; omega) (fun e => hne e.symm), Below.heap_alloc _ _ _ hlt2]
              exact BX2.out
            · refine (BL.out.alloc BL.out.size (.cells #[.int .i64 (belowP p k Q)] 49)).grown HG.out (by have := BL.out.size; simp; omega) fun x hx => ?_
              exact (World.ownsRow.there R1.out hx).1
      · have VZ := VC.out
        unfold or_ at VZ
        rw [if_neg hE0] at VZ
        subst VZ
        have hE1 : (E != 0) = true := by simpa using hE0
        clear hE0 VC
        go_wp2_with ((refine wpList_call_slot (o := ⟨some 36, _, _, _, _, _⟩) rfl 33 _ _ rfl f caps rfl hf.out (#[.int .i64 (j : Int), .int .i64 p] ++ caps) (by simp [go_sem]) ?_; refine HS.out.mono ?_; rintro e w1 ⟨rfl, hs⟩; refine ⟨_, rfl, ?_⟩; simp only [Act.put, List.setIfInBounds_toArray, List.set_cons_succ, List.set_cons_zero]; have HS1 := Lib.hid hs; have BX := Lib.hid (box_next (k := k) (s := t) (m := u) (d := (K : Int)) hs); obtain ⟨q0, q1, q2, q3⟩ := box_of BX.out; clear hs))
        go_ret
        exact ⟨rfl, BN.out.trans (HS1.out.mono BN.out.size)⟩
    · have e := VIS.out
      rw [vis_end see ns j st (by rw [hl.out]; omega)] at e
      subst e
      go_wp2
      go_ret
      exact ⟨rfl, BEL.out⟩
theorem visit_any (v : Value) (ns : List Nd) (root : Int) (f : FuncId) (caps : Array Value) (see : Nat → Int → Int) (w : World) (h : NodesAt w v ns) (hn : ns.length ≤ 4000) (hW : wholeB (kk ns) = true)
    (hr : 0 ≤ root ∧ root ≤ 2) (hf : ∀ vs w, (callFunc f vs).run Try.prog w = .ok (.enter f vs) w)
    (hsee : ∀ (W : World) (i : Nat) (p : Int), Below w.heap.size w W → i < ns.length → 0 ≤ p → p ≤ 2 → Calls Try.prog f (#[.int .i64 (i : Int), .int .i64 p] ++ caps) W (RI (see i p) W)) :
    Calls Try.prog 49 #[v, .int .i64 root, .func (.func f) #[] caps] w (RI (visL see ns 0 [root]) w) := by
  have hp := wholeB_pos _ hW
  rw [length_kk] at hp
  obtain ⟨b, off, c, rfl, hnc, _, hb, hc⟩ := nodes_slice' h hp
  exact visit_in b off ns.length c ns root f caps see w (Lib.hid rfl) hn hnc hb (Lib.hid hc) (Lib.hid hW) hr (Lib.hid hf) (Lib.hid hsee)
end Go.Proofs.Ytlalnmefppbebaa
