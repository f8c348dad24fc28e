/- The flat sizes: ownSize, flatSizes. -/
import Derived.Test.YtbpenjdpalhmaaaLayC
import Derived.Test.YtbpenjdpalhmaaaLayV
namespace Go.Proofs.Ytbpenjdpalhmaaa
open Go.Shelf Go.RowKit Go.Lib Go.Sort Go.Proofs.TreeMath
theorem ownSize_any (n : Nd) (w : World) : Calls Try.prog 46 #[n.val] w (RI (((ownT n).length : Nat) : Int) w) := by
  obtain ⟨k, s, m, d⟩ := n
  show Calls Try.prog 46 #[.agg #[.int .i64 k, .string s, .int .i64 m, .int .i64 d]] w _
  have hn := node_cells w k s m d
  by_cases h : k = 42
  · subst h
    rw [show ownT ⟨42, s, m, d⟩ = [32] from rfl]
    clear hn
    go_enter Try.func46, Try.ntmps46
    go_wp2
    go_ret
    exact ⟨rfl, (Below.refl _ _).alloc (Nat.le_refl _) _⟩
  · have e1 : (k == 42) = false := by simpa using h
    rw [show ownT ⟨k, s, m, d⟩ = s.data.toList by simp [ownT, h]]
    clear hn
    go_enter Try.func46, Try.ntmps46
    go_wp2
    go_ret
    exact ⟨by simp, (Below.refl _ _).alloc (Nat.le_refl _) _⟩
def natCells (xs : List Nat) : List Value := xs.map fun x : Nat => Value.int .i64 ((x : Nat) : Int)
theorem natCells_get (xs : List Nat) (i : Nat) (h : i < xs.length) : (natCells xs)[i]? = some (.int .i64 ((xs.getD i 0 : Nat) : Int)) := by
  simp [natCells, List.getD_eq_getElem?_getD, h]
theorem length_natCells (xs : List Nat) : (natCells xs).length = xs.length := by simp [natCells]
theorem natCells_one (xs : List Nat) : ∀ u ∈ natCells xs, u.oneCell' = true := by
  intro u hu
  obtain ⟨n, _, rfl⟩ := List.mem_map.1 hu
  rfl
theorem natCells_take (xs : List Nat) (k : Nat) : (natCells xs).take k = natCells (xs.take k) := by simp [natCells]
theorem natCells_append (a b : List Nat) : natCells (a ++ b) = natCells a ++ natCells b := by simp [natCells]
/-- What flatSizes returns: a new row. -/
def SRet (W : World) (ns : List Nd) (e : Ending) (w' : World) : Prop :=
  e = .returned (.slice (some ⟨W.heap.size, 0, none⟩) ns.length ns.length) ∧ w'.rowIs W.heap.size 3 ns.length (fun j => .int .i64 (((szs ns).getD j 0 : Nat) : Int)) ∧ Below W.heap.size W w'
theorem take_sum_succ (l : List Nat) (j : Nat) (h : j < l.length) : (l.take (j + 1)).sum = (l.take j).sum + l.getD j 0 := by
  rw [List.take_succ_eq_append_getElem h, List.sum_append, List.getD_eq_getElem?_getD, List.getElem?_eq_getElem h]
  simp
theorem infoInt' : ∃ i, Try.prog.info? 3 = some i ∧ i.zero = some (.int .i64 0) ∧ i.size = 1 ∧ i.bytes = 8 := info_of' (by kernel_rfl)
theorem take_sum_le (l : List Nat) (j : Nat) : (l.take j).sum ≤ l.sum := by
  have : l.sum = (l.take j).sum + (l.drop j).sum := by rw [← List.sum_append, List.take_append_drop]
  omega
theorem sum_reverse (l : List Nat) : l.reverse.sum = l.sum := by
  induction l with
  | nil => rfl
  | cons x l ih => simp [List.sum_append, ih]; omega
theorem cell_one_new (w : World) (v : Value) (t : TypeId) : ∀ j u, [v][j]? = some u → (w.alloc (.cells #[v] t)).cell? ((⟨w.heap.size, 0, none⟩ : Addr).add j) = some u := by
  intro j u hj
  match j, hj with
  | 0, hj =>
    simp at hj
    subst hj
    show (w.alloc (.cells #[v] t)).cell? ⟨w.heap.size, 0, none⟩ = some v
    rw [Lib.cell_of_heap (show (w.alloc (.cells #[v] t)).heap[w.heap.size]? = some (.cells #[v] t (0, 0)) by show (w.heap.push _)[w.heap.size]? = _; simp)]
    rfl
set_option maxHeartbeats 2000000 in
theorem sizes_go (b off n c : Nat) (ns : List Nd) (w : World) (hl : Hid (ns.length = n)) (hn : n ≤ 4000) (hb : b < w.heap.size) (hc : Hid (CellsIn w b off (nodeCells ns))) (hw : Hid (wholeB (kk ns) = true)) (ht : Hid (∀ x ∈ ns, x.text.size ≤ 1000000)) :
    Calls Try.prog 35 #[.slice (some ⟨b, off, none⟩) n c] w (SRet w ns) := by
  obtain ⟨i0, hi1, hz0, hz1, hz2⟩ := infoInt'
  have HI := Lib.hid (And.intro hi1 (And.intro hz0 (And.intro hz1 hz2)))
  clear hi1 hz0 hz1 hz2
  go_enter Try.func35, Try.ntmps35
  go_wp2_with (refine wpList_make_row _ rfl _ _ 51 rfl 3 i0 (.int .i64 0) Try.underlying51 HI.out.1 HI.out.2.1 HI.out.2.2.1 rfl .i64 .i64 n rfl rfl (by rw [HI.out.2.2.2]; omega) (by omega) ?_)
  have hrow := World.rowIs_made w (.int .i64 0) n 3
  have hbel0 : Below w.heap.size w (w.alloc (.cells (madeCells #[.int .i64 0] n) 3)) := (Below.refl _ _).alloc (Nat.le_refl _) _
  have hsz0 : w.heap.size < (w.alloc (.cells (madeCells #[.int .i64 0] n) 3)).heap.size := by simp
  obtain ⟨w1, hw1⟩ : ∃ w1, w1 = w.alloc (.cells (madeCells #[.int .i64 0] n) 3) := ⟨_, rfl⟩
  rw [← hw1] at hrow hbel0 hsz0 ⊢
  clear hw1
  go_wp2_with fail
  go_loopw [4, 5] (fun kd at_ wr => ∃ (k m : Nat) (p : Option Addr) (cap : Nat), k ≤ n ∧ at_ = .int .i64 ((k : Int) - 1) ∧ kd = .slice p m cap ∧ m = (stk (ns.drop k)).length ∧ wr.ownsRow (w.heap.size + 1) 3 1 (.slice p m cap) m (natCells (stk (ns.drop k)).reverse) ∧ wr.rowIs w.heap.size 3 n (fun j => .int .i64 ((if k ≤ j then (szs ns).getD j 0 else 0 : Nat) : Int)) ∧ Below w.heap.size w wr ∧ w.heap.size < wr.heap.size) (fun _ at_ _ => (intOf at_ + 1).toNat)
  case atStart => 
    have e0 : ns.drop n = [] := List.drop_eq_nil_of_le (by rw [hl.out]; exact Nat.le_refl _)
    refine ⟨n, 0, none, 0, Nat.le_refl _, rfl, rfl, by rw [e0]; rfl, by rw [e0]; exact World.ownsRow_nil _ _ _ _, ?_, hbel0, hsz0⟩
    refine hrow.congr fun i hi => ?_
    rw [if_neg (by omega)]
    rfl
  case round =>
    obtain ⟨wo, hwo⟩ : ∃ wo : World, wo = wr := ⟨_, rfl⟩
    subst hwo
    obtain ⟨k, m, p, cap, hkn, rfl, rfl, hm, hown, hro, hbel, hsz⟩ := hrel
    rcases Nat.eq_zero_or_pos k with rfl | hk
    · have HR := Lib.hid hro
      clear hro hown hm
      rw [show ((0 : Nat) : Int) - 1 = -1 from rfl]
      go_wp2
      go_ret
      refine ⟨by rw [hl.out]; rfl, ?_, hbel⟩
      rw [hl.out]
      refine HR.out.congr fun i hi => ?_
      rw [if_pos (Nat.zero_le _)]
    · obtain ⟨i, rfl⟩ : ∃ i, k = i + 1 := ⟨k - 1, by omega⟩
      have hin : i < ns.length := by rw [hl.out]; omega
      have ei : (((i + 1 : Nat) : Int) - 1) = (i : Int) := by omega
      rw [ei]
      clear ei
      have hcw := hc.out.kept (hbel.block b hb)
      obtain ⟨c0, c1, c2, c3⟩ := hcw.node i hin
      obtain ⟨K1, K2⟩ := stk_kids ns hw.out i hin
      obtain ⟨S1, S2⟩ := stk_sum_len (ns.drop (i + 1)) (fun x hx => ht.out x (List.mem_of_mem_drop hx))
      have ed : ns.drop i = ns.getD i default :: ns.drop (i + 1) := by
        rw [List.drop_eq_getElem_cons hin, List.getD_eq_getElem?_getD, List.getElem?_eq_getElem hin]
        rfl
      have hti := ht.out (ns.getD i default) (by rw [List.getD_eq_getElem?_getD, List.getElem?_eq_getElem hin]; exact List.getElem_mem hin)
      have hol := own_len (ns.getD i default) hti
      have es : stk (ns.drop i) = ((ownT (ns.getD i default)).length + ((stk (ns.drop (i + 1))).take (ns.getD i default).kids.toNat).sum) :: (stk (ns.drop (i + 1))).drop (ns.getD i default).kids.toNat := by
        rw [ed]; rfl
      have ez : (szs ns).getD i 0 = (stk (ns.drop i)).headD 0 := szs_get ns i hin
      have OC := Lib.hid (fun W => ownSize_any (ns.getD i default) W)
      rw [List.length_drop, hl.out] at S1 S2
      obtain ⟨nd, hnd⟩ : ∃ nd, nd = ns.getD i default := ⟨_, rfl⟩
      rw [← hnd] at c0 c1 c2 c3 K1 K2 hol es OC
      clear hti ed hnd hcw
      obtain ⟨S, hS⟩ : ∃ S, S = stk (ns.drop (i + 1)) := ⟨_, rfl⟩
      rw [← hS] at K1 S1 S2 es hm hown
      clear hS
      obtain ⟨d0, d1, d2, d3⟩ := nd
      simp only at c0 c1 c2 c3 K1 K2 es
      obtain ⟨K, rfl⟩ : ∃ K : Nat, d3 = (K : Int) := ⟨d3.toNat, by omega⟩
      rw [Int.toNat_natCast] at K1 es
      obtain ⟨O, hO⟩ : ∃ O, O = (ownT ⟨d0, d1, d2, (K : Int)⟩).length := ⟨_, rfl⟩
      rw [← hO] at OC es hol
      clear hO K2
      have SK := take_sum_le S K
      obtain ⟨q, eq1, hq⟩ := cut_ints hown (m - K) (Nat.sub_le _ _)
      obtain ⟨eq2, hown2⟩ := cut_to hown (m - K) (Nat.sub_le _ _)
      have er : ((m - K : Nat) : Int) = (m : Int) - (K : Int) := by omega
      rw [er] at eq1 eq2
      have HOWN := Lib.hid hown
      have HOWN2 := Lib.hid hown2
      have HQ := Lib.hid hq
      have HES := Lib.hid es
      have HEZ := Lib.hid ez
      have HM := Lib.hid hm
      have HRO := Lib.hid hro
      have E1 := Lib.hid eq1
      have E2 := Lib.hid eq2
      clear hown hown2 hq es ez hm hro er eq1 eq2
      go_wp2_with fail
      refine (OC.out _).mono ?_
      rintro e w2 ⟨rfl, b2⟩
      have hKm : K ≤ m := by rw [HM.out]; exact K1
      have hmn : m ≤ 4000 := by rw [HM.out]; omega
      have g3 := (b2.cell (p := ⟨b, off + i * 4 + 3, none⟩) (by have := hbel.size; simp; omega)).trans c3
      have hbel2 : Below w.heap.size w w2 := hbel.trans (b2.mono hbel.size)
      have hsz2 : w.heap.size < w2.heap.size := by have := b2.size; omega
      have B2 := Lib.hid b2
      have eq1 := E1.out
      clear b2 c0 c1 c2 c3
      go_wp2_with fail
      clear eq1
      obtain ⟨R, hR⟩ : ∃ R, R = m - (m - K) := ⟨_, rfl⟩
      rw [← hR]
      have hRm : R ≤ m := by omega
      have HR := Lib.hid hR
      clear hR
      have HQ2 : Hid (∀ j, j < R → ∃ g o2, q = some ⟨g, o2, none⟩ ∧ w2.cell? ⟨g, o2 + j, none⟩ = some (.int .i64 (((S.take K).reverse.getD j 0 : Nat) : Int))) := Lib.hid (by
        intro j hj
        rw [HR.out] at hj
        obtain ⟨g, o2, hq1, hq2, hq3, hq4⟩ := HQ.out (by omega)
        refine ⟨g, o2, hq1, ?_⟩
        rw [B2.out.cell (p := ⟨g, o2 + j, none⟩) hq3, hq4 j hj]
        have hlen : (m - K + j) < S.reverse.length := by rw [List.length_reverse, ← HM.out]; omega
        rw [natCells_get _ _ hlen]
        congr 3
        rw [List.getD_eq_getElem?_getD, List.getD_eq_getElem?_getD, List.reverse_take, List.getElem?_drop, ← HM.out])
      have HQL : Hid ((S.take K).reverse.length = R) := Lib.hid (by rw [List.length_reverse, List.length_take, HR.out, ← HM.out]; omega)
      have HQS : Hid ((S.take K).reverse.sum = (S.take K).sum) := Lib.hid (sum_reverse _)
      obtain ⟨X, hX⟩ : ∃ X, X = (S.take K).reverse := ⟨_, rfl⟩
      rw [← hX] at HQ2 HQL HQS
      have hXs : X.sum ≤ 4000004000 := by rw [HQS.out]; omega
      clear hX
      go_loopw [6, 9, 37] (fun sz _ jj wx => ∃ j : Nat, j ≤ R ∧ jj = .int .i64 (j : Int) ∧ sz = .int .i64 ((O + (X.take j).sum : Nat) : Int) ∧ wx = w2) (fun _ _ jj _ => R - (intOf jj).toNat)
      case atStart => exact ⟨0, Nat.zero_le _, rfl, by simp, rfl⟩
      case round =>
        obtain ⟨j, hj, rfl, rfl, rfl⟩ := hrel
        by_cases hlt : j < R
        · obtain ⟨g, o2, rfl, hcell⟩ := HQ2.out j hlt
          have hts := take_sum_succ X j (by rw [HQL.out]; exact hlt)
          have hle := take_sum_le X (j + 1)
          obtain ⟨A, hA⟩ : ∃ A, A = (X.take j).sum := ⟨_, rfl⟩
          obtain ⟨x, hx⟩ : ∃ x, x = X.getD j 0 := ⟨_, rfl⟩
          rw [← hA, ← hx] at hts
          rw [← hA]
          rw [← hx] at hcell
          rw [hts] at hle
          have HTS := Lib.hid hts
          clear hts hA hx
          go_wp2
          go_roundw
          case rel => exact ⟨j + 1, by omega, by go_num, by rw [HTS.out]; go_num, by first | trivial | rfl⟩
          case measure => simp [intOf]; omega
        · obtain rfl : j = R := by omega
          have HT : Hid (X.take j = X) := Lib.hid (List.take_of_length_le (by rw [HQL.out]; exact Nat.le_refl _))
          rw [HT.out, HQS.out]
          obtain ⟨Z, hZ⟩ : ∃ Z, Z = O + (S.take K).sum := ⟨_, rfl⟩
          rw [← hZ]
          have HZ := Lib.hid hZ
          have hZb : Z ≤ 9000000000 := by omega
          clear hZ
          have hr2 : wr.rowIs w.heap.size 3 n _ := HRO.out.of_block (B2.out.block _ hsz)
          have hcell : wr.cell? ⟨w.heap.size, i, none⟩ = some (.int .i64 ((if i + 1 ≤ i then (szs ns).getD i 0 else 0 : Nat) : Int)) := hr2.cell (by omega)
          rw [if_neg (by omega)] at hcell
          have hfz := hr2.frozen i
          have HR2 := Lib.hid hr2
          clear hr2
          go_upto_region 14 with fail
          have hr3 := HR2.out.set i (.int .i64 (Z : Int))
          have hb3 : Below w.heap.size w (wr.setCell ⟨w.heap.size, i, none⟩ (.int .i64 (Z : Int))) := hbel2.setCell (Nat.le_refl _) _
          have ho3 : (wr.setCell ⟨w.heap.size, i, none⟩ (.int .i64 (Z : Int))).ownsRow (w.heap.size + 1) 3 1 (.slice p (m - K) cap) (m - K) ((natCells S.reverse).take (m - K)) := by
            refine World.ownsRow.keep HOWN2.out fun g hg => ?_
            have hgb := World.ownsRow.there HOWN2.out hg
            rw [Below.heap_setCell _ _ _ _ (by simp; omega)]
            exact B2.out.block g hgb.2
          have hz3 : w.heap.size + 1 ≤ (wr.setCell ⟨w.heap.size, i, none⟩ (.int .i64 (Z : Int))).heap.size := by simp [World.setCell]; omega
          obtain ⟨w3, hw3⟩ : ∃ w3, w3 = wr.setCell ⟨w.heap.size, i, none⟩ (.int .i64 (Z : Int)) := ⟨_, rfl⟩
          rw [← hw3] at hr3 hb3 ho3 hz3 ⊢
          have HR3 := Lib.hid hr3
          have HO3 := Lib.hid ho3
          clear hw3 hr3 ho3 hcell hfz
          have eq2 := E2.out
          go_wp2_with (at_builtin; refine wpList_append_any _ rfl _ _ 51 rfl (w.heap.size + 1) 3 i0 (.int .i64 0) 1 8 Try.underlying51 HI.out.1 HI.out.2.1 HI.out.2.2.1 HI.out.2.2.2 rfl (by decide) (.slice p (m - K) cap) (m - K) _ rfl (HO3.out.alloc _) (some ⟨w3.heap.size, 0, none⟩) 1 1 [.int .i64 (Z : Int)] rfl rfl (fun _ => ⟨_, rfl, cell_one_new _ _ _⟩) (natCells_one [Z]) (by unfold maxLen; omega) (by omega) (by simp; omega) ?_; intro p' cap' w4 hown4 hgrow4 _; have HO4 := Lib.hid hown4; have HG4 := Lib.hid hgrow4; clear hown4 hgrow4)
          go_roundw
          case rel =>
            have eR : (stk (ns.drop i)).reverse = (S.reverse.take (m - K)) ++ [Z] := by
              rw [HES.out, List.reverse_cons, HZ.out, List.reverse_drop, HM.out]
            refine ⟨i, m - K + 1, p', cap', by omega, rfl, rfl, by rw [HES.out, HM.out]; simp, ?_, ?_, ?_, ?_⟩
            · rw [eR, natCells_append, ← natCells_take]
              exact HO4.out
            · refine (((HR3.out.alloc _).of_block (HG4.out.block _ (by simp; omega) ?_)).congr fun j hj => ?_)
              · intro e1
                have := World.ownsRow.there HO3.out e1.symm
                omega
              · by_cases hji : j = i
                · subst hji
                  rw [if_pos rfl, if_pos (Nat.le_refl _), HEZ.out, HES.out, HZ.out]
                  rfl
                · rw [if_neg hji]
                  by_cases h1 : i ≤ j
                  · rw [if_pos h1, if_pos (by omega)]
                  · rw [if_neg h1, if_neg (by omega)]
            · refine (hb3.alloc (by omega) _).grown HG4.out (by simp; omega) fun g hg => ?_
              have := World.ownsRow.there HO3.out hg
              omega
            · have := HG4.out.size
              simp at this
              omega
          case measure => simp [intOf]
/-- The flat sizes of a document's trees. -/
theorem sizes_any (v : Value) (ns : List Nd) (w : World) (h : NodesAt w v ns) (hn : ns.length ≤ 4000) (hw : wholeB (kk ns) = true) (ht : ∀ x ∈ ns, x.text.size ≤ 1000000) : Calls Try.prog 35 #[v] w (SRet w ns) := by
  have hp := wholeB_pos _ hw
  rw [length_kk] at hp
  obtain ⟨b, off, c, rfl, _, _, hb, hc⟩ := nodes_slice h (by omega)
  exact sizes_go b off ns.length c ns w rfl hn hb hc (Lib.hid hw) (Lib.hid ht)
end Go.Proofs.Ytbpenjdpalhmaaa
