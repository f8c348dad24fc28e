/- Slices of texts; the contracts of variables and repeats. -/
import Derived.Test.YtlalnmefppbebaaSynD
import Derived.Test.YtlalnmefppbebaaRefMake
import Derived.Maps.OwnSet
import Derived.Maps.Ext
import Derived.Maps.AppendAt
namespace Go
/-- A row that lies behind a base lies behind an elder one. -/
theorem World.ownsRow.base {w : World} {b b' : Nat} {e : TypeId} {size n : Nat} {v : Value} {xs : List Value} (h : w.ownsRow b e size v n xs) (hb : b' ≤ b) : w.ownsRow b' e size v n xs := by
  refine ⟨h.1, ?_⟩
  rcases h.2 with h | ⟨g, cap, cur, hv, hg, rest⟩
  · exact .inl h
  · exact .inr ⟨g, cap, cur, hv, by omega, rest⟩
/-- It stays while its block does. -/
theorem World.ownsRow.keep {w w' : World} {base : Nat} {e : TypeId} {size n : Nat} {v : Value} {xs : List Value} (h : w.ownsRow base e size v n xs) (k : ∀ g, v.ownBlock = some g → w'.heap[g]? = w.heap[g]?) : w'.ownsRow base e size v n xs := by
  refine ⟨h.1, ?_⟩
  rcases h.2 with h | ⟨g, cap, cur, rfl, hb, hg, rest⟩
  · exact .inl h
  · exact .inr ⟨g, cap, cur, rfl, hb, (k g rfl).trans hg, rest⟩
/-- Its block is one that is there. -/
theorem World.ownsRow.there {w : World} {base : Nat} {e : TypeId} {size n : Nat} {v : Value} {xs : List Value} (h : w.ownsRow base e size v n xs) {g : Nat} (hg : v.ownBlock = some g) : base ≤ g ∧ g < w.heap.size := by
  rcases h.2 with ⟨rfl, _⟩ | ⟨g', cap, cur, rfl, hb, hg', _⟩
  · cases hg
  · simp [Value.ownBlock] at hg
    subst hg
    exact ⟨hb, (Array.getElem?_eq_some_iff.1 hg').1⟩
end Go
namespace Go.Proofs.Ytlalnmefppbebaa
open Go.RowKit Go.Proofs.TreeMath
/-- A text that was just laid. -/
theorem text_new (w : World) (o : Obj) (t : ByteArray) : ∀ j u, [Value.string t][j]? = some u → ((w.alloc o).alloc (.cells #[.string t] 9)).cell? ((⟨w.heap.size + 1, 0, none⟩ : Addr).add j) = some u := by
  have h := cell_one_new (w.alloc o) (.string t) 9
  rwa [show (w.alloc o).heap.size = w.heap.size + 1 by simp] at h
def strCells (ss : List ByteArray) : List Value := ss.map Value.string
def StrsAt (w : World) (v : Value) (ss : List ByteArray) : Prop := SliceAt w 1 v ss.length (strCells ss)
def SRow (base : Nat) (w : World) (v : Value) (ss : List ByteArray) : Prop := w.ownsRow base 9 1 v ss.length (strCells ss)
/-- A function that returns a list of texts. -/
def SRet (ss : List ByteArray) (W : World) (e : Ending) (w' : World) : Prop := ∃ v', e = .returned v' ∧ StrsAt w' v' ss ∧ Below W.heap.size W w'
/-- .. of its own memory. -/
def SOwn (ss : List ByteArray) (W : World) (e : Ending) (w' : World) : Prop := ∃ v', e = .returned v' ∧ SRow W.heap.size w' v' ss ∧ Below W.heap.size W w'
theorem length_strCells (xs : List ByteArray) : (strCells xs).length = xs.length * 1 := by simp [strCells]
theorem strCells_one (xs : List ByteArray) : ∀ u ∈ strCells xs, u.oneCell' = true := by
  intro u hu
  obtain ⟨n, _, rfl⟩ := List.mem_map.1 hu
  rfl
theorem strCells_append (a b : List ByteArray) : strCells (a ++ b) = strCells a ++ strCells b := by simp [strCells]
theorem CellsIn.str {w : World} {b off : Nat} {xs : List ByteArray} (h : CellsIn w b off (strCells xs)) (i : Nat) (hi : i < xs.length) :
    w.cell? ⟨b, off + i, none⟩ = some (.string (xs.getD i default)) := by
  refine h i _ ?_
  simp [strCells, List.getElem?_eq_getElem hi, List.getD_eq_getElem?_getD]
theorem StrsAt.below {w w' : World} {v : Value} {xs : List ByteArray} (h : StrsAt w v xs) (b : Below w.heap.size w w') : StrsAt w' v xs := SliceAt.below h b
theorem StrsAt.le {w : World} {v : Value} {ns : List ByteArray} (h : StrsAt w v ns) : ns.length ≤ maxLen := by
  obtain ⟨_, p, cap, _, h2, h3, _⟩ := h
  omega
theorem strs_form {w : World} {v : Value} {ns : List ByteArray} (h : StrsAt w v ns) : ∃ p c, v = .slice p ns.length c := by
  obtain ⟨_, p, cap, h1, _⟩ := h
  exact ⟨p, cap, h1⟩
theorem SRow.at {base : Nat} {w : World} {v : Value} {fs : List ByteArray} (h : SRow base w v fs) : StrsAt w v fs := SliceAt.of_owns h
theorem SRow.nil (base : Nat) (w : World) : SRow base w (.slice none 0 0) [] := World.ownsRow_nil _ _ _ _
theorem StrsAt.nil (w : World) : StrsAt w (.slice none 0 0) [] := SliceAt.nil w 1
theorem SRow.after {base : Nat} {w w' : World} {v : Value} {fs : List ByteArray} (h : SRow base w v fs) (b : Below w.heap.size w w') : SRow base w' v fs := World.ownsRow.keep h fun g hg => b.block g (World.ownsRow.there h hg).2
theorem infoStr : ∃ i, Try.prog.info? 9 = some i ∧ i.zero = some (.string ByteArray.empty) ∧ i.size = 1 ∧ i.bytes = 16 := info_of' (by kernel_rfl)
theorem vars_step (T : List Nd) (j : Nat) (h : j < T.length) : varsL (T.take (j + 1)) = varsL (T.take j) ++ (if (T.getD j default).kind = 22 then [(T.getD j default).text] else []) := by
  have e : T.getD j default = T[j] := by simp [List.getD_eq_getElem?_getD, List.getElem?_eq_getElem h]
  rw [List.take_succ_eq_append_getElem h, varsL_append, e, varsL_cons]
  simp [varsL]
theorem varsL_len (T : List Nd) : (varsL T).length ≤ T.length := by
  unfold varsL
  rw [List.length_map]
  exact List.length_filter_le _ _
set_option maxRecDepth 100000 in
set_option maxHeartbeats 2000000 in
theorem variables_in (b off n c i m : Nat) (ns T : List Nd) (w : World) (hat : NodesAt w (.slice (some ⟨b, off, none⟩) n c) ns) (hn : ns.length = n) (hnm : n ≤ 100000) (hnc : n ≤ c) (hi : i < n) (hE : endI (kk ns) (i : Int) = ((i + m : Nat) : Int)) (him : i + m ≤ n) (hb : b < w.heap.size)
    (hc : Hid (CellsIn w b (off + i * 4) (nodeCells T))) (hT : Hid (T.length = m)) :
    Calls Try.prog 40 #[.slice (some ⟨b, off, none⟩) n c, .int .i64 (i : Int)] w (SOwn (varsL T) w) := by
  have HE := Lib.hid (fun W (h : Below w.heap.size w W) => by have := end_any _ ns (i : Int) W (hat.below h) (by omega); rw [hE] at this; exact this)
  clear hat hE hn
  obtain ⟨i0, hi0, hz0, hz1, hz2⟩ := infoStr
  have HI := Lib.hid (And.intro hi0 (And.intro hz0 (And.intro hz1 hz2)))
  clear hi0 hz0 hz1 hz2
  have hw1 : ((i + m : Nat) : Int) - (i : Int) = (m : Int) := by omega
  go_enter Try.func40, Try.ntmps40
  go_wp2_with fail
  refine (HE.out _ (Below.refl _ _)).mono ?_
  rintro e w1 ⟨rfl, rfl⟩
  go_wp2_with fail
  go_loopw [5, 15] (fun s5 s15 wr => ∃ (j : Nat) (nv : Value), nv = s5 ∧ j ≤ m ∧ s15 = .int .i64 (j : Int) ∧ SRow w.heap.size wr nv (varsL (T.take j)) ∧ Below w.heap.size w wr) (fun _ s15 _ => m - (intOf s15).toNat)
  case atStart => exact ⟨0, _, rfl, Nat.zero_le _, rfl, SRow.nil _ _, Below.refl _ _⟩
  case round =>
    obtain ⟨wo, hwo⟩ : ∃ wo : World, wo = wr := ⟨_, rfl⟩
    subst hwo
    obtain ⟨j, nv, rfl, hj, rfl, hrow, hbel⟩ := hrel
    have ROW := Lib.hid hrow
    have BEL := Lib.hid hbel
    clear hrow hbel
    by_cases hlt : j < m
    · have hjT : j < T.length := by rw [hT.out]; exact hlt
      obtain ⟨c0, c1, c2, c3⟩ := (hc.out.kept (BEL.out.block b hb)).node j hjT
      have ST := Lib.hid (vars_step T j hjT)
      have LEN : Hid ((varsL (T.take j)).length ≤ 100000) := Lib.hid (by have := varsL_len (T.take j); rw [List.length_take] at this; omega)
      have hbw : b < wo.heap.size := Nat.lt_of_lt_of_le hb BEL.out.size
      obtain ⟨nd, hnd⟩ : ∃ nd, nd = T.getD j default := ⟨_, rfl⟩
      rw [← hnd] at c0 c1 c2 c3 ST
      clear hnd hjT
      obtain ⟨k, t, u, d⟩ := nd
      simp only at c0 c1 c2 c3 ST
      have hltz : ((j : Int) < (m : Int)) := by omega
      have BN := Lib.hid (BEL.out.alloc BEL.out.size (nodeObj k t u d))
      have R0 : Hid (SRow w.heap.size (wo.alloc (nodeObj k t u d)) nv (varsL (T.take j))) := Lib.hid (ROW.out.after ((Below.refl _ _).alloc (Nat.le_refl _) _))
      by_cases hk : k = 22
      · subst hk
        have R1 : Hid (SRow w.heap.size ((wo.alloc (nodeObj 22 t u d)).alloc (.cells #[.string t] 9)) nv (varsL (T.take j))) := Lib.hid (R0.out.after ((Below.refl _ _).alloc (Nat.le_refl _) _))
        unfold SRow nodeObj at R1
        have S1 := Lib.hid (show w.heap.size ≤ ((wo.alloc (nodeObj 22 t u d)).alloc (.cells #[.string t] 9)).heap.size from by have := BEL.out.size; simp; omega)
        unfold nodeObj at S1
        go_wp2_with ((at_builtin; refine wpList_append_own _ rfl _ _ 31 rfl w.heap.size 9 i0 (.string ByteArray.empty) 1 16 Try.underlying31 HI.out.1 HI.out.2.1 HI.out.2.2.1 HI.out.2.2.2 rfl (by decide) _ _ _ rfl R1.out ⟨wo.heap.size + 1, 0, none⟩ 1 1 [.string t] rfl rfl ?c1 (strCells_one [t]) ?c2 ?c3 S1.out ?_; (case c1 => exact text_new _ _ _); (case c2 => have := LEN.out; unfold maxLen; omega); (case c3 => have := LEN.out; omega); intro v' w3 hown' hgrow hnil; have HO3 := Lib.hid hown'; have HG := Lib.hid hgrow; clear hown' hgrow hnil))
        go_roundw
        case rel =>
          refine ⟨_, _, _, ⟨j + 1, hlt, rfl, ?_, ?_⟩, rfl, rfl, by go_num⟩
          · rw [ST.out, if_pos trivial]
            unfold SRow
            rw [List.length_append, strCells_append]
            exact HO3.out
          · have hb2 : Below w.heap.size w ((wo.alloc (nodeObj 22 t u d)).alloc (.cells #[.string t] 9)) := BN.out.alloc BN.out.size _
            unfold nodeObj at hb2
            refine hb2.grown HG.out (by have := BEL.out.size; simp; omega) fun q hq => ?_
            exact (World.ownsRow.there R1.out hq).1
        case measure => simp [intOf]; omega
      · have g : (k == 22) = false := by simpa using hk
        have ST' := ST.out
        rw [if_neg hk, List.append_nil] at ST'
        have ST2 := Lib.hid ST'
        clear hk ST ST'
        go_wp2
        go_roundw
        case rel => exact ⟨j + 1, _, rfl, hlt, by go_num, by rw [ST2.out]; exact R0.out, BN.out⟩
        case measure => simp [intOf]; omega
    · obtain rfl : j = m := by omega
      go_wp2
      go_ret
      refine ⟨_, rfl, ?_, BEL.out⟩
      have := ROW.out
      rwa [List.take_of_length_le (by rw [hT.out]; omega)] at this
/-- The names of the tree that stands at a place. -/
theorem variables_own (v : Value) (ns : List Nd) (i : Nat) (w : World) (hat : NodesAt w v ns) (hn : ns.length ≤ 100000) (hi : i < ns.length) (hW : wholeB (kk ns) = true) :
    Calls Try.prog 40 #[v, .int .i64 (i : Int)] w (SOwn (varsL ((ns.drop i).take ((fin (kk ns) i 1).toNat - i))) w) := by
  obtain ⟨b, off, c, rfl, hnc, hcm, hb, hc⟩ := nodes_slice' hat (by omega)
  have h0 := whole_sub (kk ns) hW i (by rw [length_kk]; exact hi)
  have h1 := fin_le (kk ns) i 1 h0
  have h2 := fin_len (kk ns) i 1 (by rw [length_kk]; omega)
  rw [length_kk] at h2
  obtain ⟨m, hm⟩ : ∃ m : Nat, fin (kk ns) i 1 = ((i + m : Nat) : Int) := ⟨(fin (kk ns) i 1).toNat - i, by omega⟩
  have hmn : i + m ≤ ns.length := by omega
  have e : (fin (kk ns) i 1).toNat - i = m := by omega
  rw [e]
  refine variables_in b off ns.length c i m ns _ w hat rfl hn hnc hi (by rw [endI_nat, hm]) hmn hb (Lib.hid ?_) (Lib.hid (by rw [List.length_take, List.length_drop]; omega))
  intro j u hj
  rw [nodeCells_take] at hj
  have hj' := take_get hj
  rw [nodeCells_drop, List.getElem?_drop] at hj'
  rw [Nat.add_assoc]
  exact hc _ _ hj'
theorem variables_any (v : Value) (ns : List Nd) (i : Nat) (w : World) (hat : NodesAt w v ns) (hn : ns.length ≤ 100000) (hi : i < ns.length) (hW : wholeB (kk ns) = true) :
    Calls Try.prog 40 #[v, .int .i64 (i : Int)] w (SRet (varsL ((ns.drop i).take ((fin (kk ns) i 1).toNat - i))) w) := by
  refine (variables_own v ns i w hat hn hi hW).mono ?_
  rintro e w' ⟨v', h1, h2, h3⟩
  exact ⟨v', h1, h2.at, h3⟩
end Go.Proofs.Ytlalnmefppbebaa
