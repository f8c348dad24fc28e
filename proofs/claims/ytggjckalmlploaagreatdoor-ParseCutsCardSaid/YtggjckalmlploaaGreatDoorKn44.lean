/- Texts of this seat, one behind the other: SynE, SynF. -/
import Derived.Test.YtggjckalmlploaaGreatDoorKn19
import Derived.Test.YtggjckalmlploaaGreatDoorKn42
import Derived.Test.YtggjckalmlploaaGreatDoorKn43
import Derived.Maps.OwnSet
import Derived.Maps.Ext
import Derived.Maps.AppendAt
/- Slices of texts; the contracts of variables and repeats. -/
set_option maxRecDepth 100000
namespace Go.Proofs.YtggjckalmlploaaGreatDoor
open Go.RowKit Go.Proofs.TreeMath
/-- A text that was just laid. -/
theorem text_new (w : World) (o : Obj) (t : ByteArray) : ∀ j u, [Value.string t][j]? = some u → ((w.alloc o).alloc (.cells #[.string t] 9)).cell? ((⟨w.heap.size + 1, 0, none⟩ : Addr).add j) = some u := by
  have h := cell_one_new (w.alloc o) (.string t) 9
  rwa [show (w.alloc o).heap.size = w.heap.size + 1 by simp] at h
def strCells (ss : List ByteArray) : List Value := ss.map Value.string
def StrsAt (w : World) (v : Value) (ss : List ByteArray) : Prop := SliceAt w 1 v ss.length (strCells ss)
def SRow (base : Nat) (w : World) (v : Value) (ss : List ByteArray) : Prop := w.ownsRow base 9 1 v ss.length (strCells ss)
/-- A function that returns a list of texts. -/
def SRet (ss : List ByteArray) (W : World) (e : Ending) (w' : World) : Prop := ∃ v', e = .returned v' ∧ StrsAt w' v' ss ∧ Below W.heap.size W w'
/-- .. of its own memory. -/
def SOwn (ss : List ByteArray) (W : World) (e : Ending) (w' : World) : Prop := ∃ v', e = .returned v' ∧ SRow W.heap.size w' v' ss ∧ Below W.heap.size W w'
theorem strCells_one (xs : List ByteArray) : ∀ u ∈ strCells xs, u.oneCell' = true := by
  intro u hu
  obtain ⟨n, _, rfl⟩ := List.mem_map.1 hu
  rfl
theorem strCells_append (a b : List ByteArray) : strCells (a ++ b) = strCells a ++ strCells b := by simp [strCells]
theorem CellsIn.str {w : World} {b off : Nat} {xs : List ByteArray} (h : CellsIn w b off (strCells xs)) (i : Nat) (hi : i < xs.length) :
    w.cell? ⟨b, off + i, none⟩ = some (.string (xs.getD i default)) := by
  refine h i _ ?_
  simp [strCells, List.getElem?_eq_getElem hi, List.getD_eq_getElem?_getD]
theorem StrsAt.below {w w' : World} {v : Value} {xs : List ByteArray} (h : StrsAt w v xs) (b : Below w.heap.size w w') : StrsAt w' v xs := SliceAt.below h b
theorem strs_form {w : World} {v : Value} {ns : List ByteArray} (h : StrsAt w v ns) : ∃ p c, v = .slice p ns.length c := by
  obtain ⟨_, p, cap, h1, _⟩ := h
  exact ⟨p, cap, h1⟩
theorem SRow.at {base : Nat} {w : World} {v : Value} {fs : List ByteArray} (h : SRow base w v fs) : StrsAt w v fs := SliceAt.of_owns h
theorem SRow.nil (base : Nat) (w : World) : SRow base w (.slice none 0 0) [] := World.ownsRow_nil _ _ _ _
theorem StrsAt.nil (w : World) : StrsAt w (.slice none 0 0) [] := SliceAt.nil w 1
theorem SRow.after {base : Nat} {w w' : World} {v : Value} {fs : List ByteArray} (h : SRow base w v fs) (b : Below w.heap.size w w') : SRow base w' v fs := World.ownsRow.keep h fun g hg => b.block g (World.ownsRow.there h hg).2
theorem infoStr : ∃ i, Tryz.prog.info? 9 = some i ∧ i.zero = some (.string ByteArray.empty) ∧ i.size = 1 ∧ i.bytes = 16 := info_of' (by kernel_rfl)
theorem vars_step (T : List Nd) (j : Nat) (h : j < T.length) : varsL (T.take (j + 1)) = varsL (T.take j) ++ (if (T.getD j default).kind = 22 then [(T.getD j default).text] else []) := by
  have e : T.getD j default = T[j] := by simp [List.getD_eq_getElem?_getD, List.getElem?_eq_getElem h]
  rw [List.take_succ_eq_append_getElem h, varsL_append, e, varsL_cons]
  simp [varsL]
theorem varsL_len (T : List Nd) : (varsL T).length ≤ T.length := by
  unfold varsL
  rw [List.length_map]
  exact List.length_filter_le _ _
set_option maxRecDepth 100000 in
set_option maxHeartbeats 2000000 in
theorem variables_in (b off n c i m : Nat) (ns T : List Nd) (w : World) (hat : NodesAt w (.slice (some ⟨b, off, none⟩) n c) ns) (hn : ns.length = n) (hnm : n ≤ 100000) (hnc : n ≤ c) (hi : i < n) (hE : endI (kk ns) (i : Int) = ((i + m : Nat) : Int)) (him : i + m ≤ n) (hb : b < w.heap.size)
    (hc : Hid (CellsIn w b (off + i * 4) (nodeCells T))) (hT : Hid (T.length = m)) :
    Calls Tryz.prog 32 #[.slice (some ⟨b, off, none⟩) n c, .int .i64 (i : Int)] w (SOwn (varsL T) w) := by
  have HE := Lib.hid (fun W (h : Below w.heap.size w W) => by have := end_any _ ns (i : Int) W (hat.below h) (by omega); rw [hE] at this; exact this)
  clear hat hE hn
  obtain ⟨i0, hi0, hz0, hz1, hz2⟩ := infoStr
  have HI := Lib.hid (And.intro hi0 (And.intro hz0 (And.intro hz1 hz2)))
  clear hi0 hz0 hz1 hz2
  have hw1 : ((i + m : Nat) : Int) - (i : Int) = (m : Int) := by omega
  go_enter Tryz.func32, Tryz.ntmps32
  go_wp2_with fail
  refine (HE.out _ (Below.refl _ _)).mono ?_
  rintro e w1 ⟨rfl, rfl⟩
  go_wp2_with fail
  go_loopw [5, 15] (fun s5 s15 wr => ∃ (j : Nat) (nv : Value), nv = s5 ∧ j ≤ m ∧ s15 = .int .i64 (j : Int) ∧ SRow w.heap.size wr nv (varsL (T.take j)) ∧ Below w.heap.size w wr) (fun _ s15 _ => m - (intOf s15).toNat)
  case atStart => exact ⟨0, _, rfl, Nat.zero_le _, rfl, SRow.nil _ _, Below.refl _ _⟩
  case round =>
    obtain ⟨wo, hwo⟩ : ∃ wo : World, wo = wr := ⟨_, rfl⟩
    subst hwo
    obtain ⟨j, nv, rfl, hj, rfl, hrow, hbel⟩ := hrel
    have ROW := Lib.hid hrow
    have BEL := Lib.hid hbel
    clear hrow hbel
    by_cases hlt : j < m
    · have hjT : j < T.length := by rw [hT.out]; exact hlt
      obtain ⟨c0, c1, c2, c3⟩ := (hc.out.kept (BEL.out.block b hb)).node j hjT
      have ST := Lib.hid (vars_step T j hjT)
      have LEN : Hid ((varsL (T.take j)).length ≤ 100000) := Lib.hid (by have := varsL_len (T.take j); rw [List.length_take] at this; omega)
      have hbw : b < wo.heap.size := Nat.lt_of_lt_of_le hb BEL.out.size
      obtain ⟨nd, hnd⟩ : ∃ nd, nd = T.getD j default := ⟨_, rfl⟩
      rw [← hnd] at c0 c1 c2 c3 ST
      clear hnd hjT
      obtain ⟨k, t, u, d⟩ := nd
      simp only at c0 c1 c2 c3 ST
      have hltz : ((j : Int) < (m : Int)) := by omega
      have BN := Lib.hid (BEL.out.alloc BEL.out.size (nodeObj k t u d))
      have R0 : Hid (SRow w.heap.size (wo.alloc (nodeObj k t u d)) nv (varsL (T.take j))) := Lib.hid (ROW.out.after ((Below.refl _ _).alloc (Nat.le_refl _) _))
      by_cases hk : k = 22
      · subst hk
        have R1 : Hid (SRow w.heap.size ((wo.alloc (nodeObj 22 t u d)).alloc (.cells #[.string t] 9)) nv (varsL (T.take j))) := Lib.hid (R0.out.after ((Below.refl _ _).alloc (Nat.le_refl _) _))
        unfold SRow nodeObj at R1
        have S1 := Lib.hid (show w.heap.size ≤ ((wo.alloc (nodeObj 22 t u d)).alloc (.cells #[.string t] 9)).heap.size from by have := BEL.out.size; simp; omega)
        unfold nodeObj at S1
        go_wp2_with ((at_builtin; refine wpList_append_own _ rfl _ _ 67 rfl w.heap.size 9 i0 (.string ByteArray.empty) 1 16 Tryz.underlying67 HI.out.1 HI.out.2.1 HI.out.2.2.1 HI.out.2.2.2 rfl (by decide) _ _ _ rfl R1.out ⟨wo.heap.size + 1, 0, none⟩ 1 1 [.string t] rfl rfl ?c1 (strCells_one [t]) ?c2 ?c3 S1.out ?_; (case c1 => exact text_new _ _ _); (case c2 => have := LEN.out; unfold maxLen; omega); (case c3 => have := LEN.out; omega); intro v' w3 hown' hgrow hnil; have HO3 := Lib.hid hown'; have HG := Lib.hid hgrow; clear hown' hgrow hnil))
        go_roundw
        case rel =>
          refine ⟨_, _, _, ⟨j + 1, hlt, rfl, ?_, ?_⟩, rfl, rfl, by go_num⟩
          · rw [ST.out, if_pos trivial]
            unfold SRow
            rw [List.length_append, strCells_append]
            exact HO3.out
          · have hb2 : Below w.heap.size w ((wo.alloc (nodeObj 22 t u d)).alloc (.cells #[.string t] 9)) := BN.out.alloc BN.out.size _
            unfold nodeObj at hb2
            refine hb2.grown HG.out (by have := BEL.out.size; simp; omega) fun q hq => ?_
            exact (World.ownsRow.there R1.out hq).1
        case measure => simp [intOf]; omega
      · have g : (k == 22) = false := by simpa using hk
        have ST' := ST.out
        rw [if_neg hk, List.append_nil] at ST'
        have ST2 := Lib.hid ST'
        clear hk ST ST'
        go_wp2
        go_roundw
        case rel => exact ⟨j + 1, _, rfl, hlt, by go_num, by rw [ST2.out]; exact R0.out, BN.out⟩
        case measure => simp [intOf]; omega
    · obtain rfl : j = m := by omega
      go_wp2
      go_ret
      refine ⟨_, rfl, ?_, BEL.out⟩
      have := ROW.out
      rwa [List.take_of_length_le (by rw [hT.out]; omega)] at this
/-- The names of the tree that stands at a place. -/
theorem variables_own (v : Value) (ns : List Nd) (i : Nat) (w : World) (hat : NodesAt w v ns) (hn : ns.length ≤ 100000) (hi : i < ns.length) (hW : wholeB (kk ns) = true) :
    Calls Tryz.prog 32 #[v, .int .i64 (i : Int)] w (SOwn (varsL ((ns.drop i).take ((fin (kk ns) i 1).toNat - i))) w) := by
  obtain ⟨b, off, c, rfl, hnc, hcm, hb, hc⟩ := nodes_slice' hat (by omega)
  have h0 := whole_sub (kk ns) hW i (by rw [length_kk]; exact hi)
  have h1 := fin_le (kk ns) i 1 h0
  have h2 := fin_len (kk ns) i 1 (by rw [length_kk]; omega)
  rw [length_kk] at h2
  obtain ⟨m, hm⟩ : ∃ m : Nat, fin (kk ns) i 1 = ((i + m : Nat) : Int) := ⟨(fin (kk ns) i 1).toNat - i, by omega⟩
  have hmn : i + m ≤ ns.length := by omega
  have e : (fin (kk ns) i 1).toNat - i = m := by omega
  rw [e]
  refine variables_in b off ns.length c i m ns _ w hat rfl hn hnc hi (by rw [endI_nat, hm]) hmn hb (Lib.hid ?_) (Lib.hid (by rw [List.length_take, List.length_drop]; omega))
  intro j u hj
  rw [nodeCells_take] at hj
  have hj' := take_get hj
  rw [nodeCells_drop, List.getElem?_drop] at hj'
  rw [Nat.add_assoc]
  exact hc _ _ hj'
theorem variables_any (v : Value) (ns : List Nd) (i : Nat) (w : World) (hat : NodesAt w v ns) (hn : ns.length ≤ 100000) (hi : i < ns.length) (hW : wholeB (kk ns) = true) :
    Calls Tryz.prog 32 #[v, .int .i64 (i : Int)] w (SRet (varsL ((ns.drop i).take ((fin (kk ns) i 1).toNat - i))) w) := by
  refine (variables_own v ns i w hat hn hi hW).mono ?_
  rintro e w' ⟨v', h1, h2, h3⟩
  exact ⟨v', h1, h2.at, h3⟩
end Go.Proofs.YtggjckalmlploaaGreatDoor
/- Sets of texts; the contract of repeats. -/
set_option maxRecDepth 100000
namespace Go.Proofs.YtggjckalmlploaaGreatDoor
open Go.RowKit Go.Maps Go.WideShapes Go.Proofs.TreeMath
/-- A text as a key. -/
def litS (s : ByteArray) : Lit := .string s.data.toList
theorem litS_inj {a b : ByteArray} (h : litS a = litS b) : a = b := by
  unfold litS at h
  injection h with h
  obtain ⟨⟨a⟩⟩ := a
  obtain ⟨⟨b⟩⟩ := b
  simpa using h
theorem litS_key (s : ByteArray) : WideAt.IsKeyLit (litS s) := trivial
theorem litS_same (a b : ByteArray) : (litS a).sameKey (litS b) = decide (a = b) := by
  rw [Bool.eq_iff_iff, WideAt.sameKey_iff (litS_key b), decide_eq_true_iff]
  exact ⟨litS_inj, fun h => by rw [h]⟩
theorem law9 : Keyed Tryz.prog 9 := string_keyed Tryz.underlying9
theorem keyS (s : ByteArray) (h : s.size ≤ 1000) : keyOf Tryz.prog 9 (.string s) = some (litS s) := WideMaps.keyOf_string_mk Tryz.underlying9 (by unfold maxLen; omega)
theorem any_lit (L : List ByteArray) (s : ByteArray) : (L.map litS).any (fun y => y.sameKey (litS s)) = inB s L := by
  unfold inB
  rw [List.any_map]
  congr 1
  funext y
  exact litS_same y s
theorem addKey_lit (L : List ByteArray) (s : ByteArray) : addKey (L.map litS) (litS s) = (if inB s L then L else L ++ [s]).map litS := by
  unfold addKey
  rw [any_lit]
  split <;> simp
theorem fold_lit (xs : List ByteArray) : ∀ acc, (xs.map litS).foldl addKey (acc.map litS) = (addAll acc xs).map litS := by
  induction xs with
  | nil => intro acc; rfl
  | cons x xs ih =>
    intro acc
    rw [List.map_cons, List.foldl_cons, addKey_lit, ih]
    rfl
/-- None is there, and none is twice. -/
def freshB (acc : List ByteArray) : List ByteArray → Bool
  | [] => true
  | x :: l => !inB x acc && freshB (acc ++ [x]) l
theorem addAll_len (l : List ByteArray) : ∀ acc, (addAll acc l).length ≤ acc.length + l.length ∧ ((addAll acc l).length = acc.length + l.length ↔ freshB acc l = true) := by
  induction l with
  | nil => intro acc; exact ⟨Nat.le_refl _, by simp [addAll, freshB]⟩
  | cons x l ih =>
    intro acc
    have e : addAll acc (x :: l) = addAll (if inB x acc then acc else acc ++ [x]) l := rfl
    rw [e]
    cases hx : inB x acc with
    | true =>
      obtain ⟨h1, h2⟩ := ih acc
      simp only [if_true, List.length_cons, freshB, hx, Bool.not_true, Bool.false_and, Bool.false_eq_true, iff_false]
      omega
    | false =>
      obtain ⟨h1, h2⟩ := ih (acc ++ [x])
      simp only [Bool.false_eq_true, if_false, List.length_cons, freshB, hx, Bool.not_false, Bool.true_and]
      rw [List.length_append, List.length_singleton] at h1 h2
      rw [← h2]
      omega
theorem inB_append (s : ByteArray) (a b : List ByteArray) : inB s (a ++ b) = (inB s a || inB s b) := by simp [inB]
theorem inB_one (s x : ByteArray) : inB s [x] = decide (x = s) := by simp [inB]
theorem fresh_dup (l : List ByteArray) : ∀ acc, freshB acc l = (!dupB l && l.all fun x => !inB x acc) := by
  induction l with
  | nil => intro acc; rfl
  | cons x l ih =>
    intro acc
    simp only [freshB, dupB, List.all_cons, ih]
    have e : (l.all fun y => !inB y (acc ++ [x])) = (!inB x l && l.all fun y => !inB y acc) := by
      rw [Bool.eq_iff_iff]
      simp only [List.all_eq_true, Bool.and_eq_true, Bool.not_eq_true', inB_append, Bool.or_eq_false_iff, inB_one, decide_eq_false_iff_not]
      constructor
      · intro h
        refine ⟨?_, fun y hy => (h y hy).1⟩
        cases hx : inB x l with
        | false => rfl
        | true => exact absurd rfl (h x (inB_iff.1 hx)).2
      · rintro ⟨h1, h2⟩ y hy
        refine ⟨h2 y hy, ?_⟩
        rintro rfl
        rw [inB_iff.2 hy] at h1
        cases h1
    rw [e]
    cases inB x acc <;> cases dupB l <;> cases inB x l <;> simp
theorem dup_len (l : List ByteArray) : decide ((addAll [] l).length < l.length) = dupB l := by
  obtain ⟨h1, h2⟩ := addAll_len l []
  rw [fresh_dup] at h2
  simp only [List.length_nil, Nat.zero_add] at h1 h2
  have e : (l.all fun x => !inB x []) = true := by simp [inB]
  rw [e, Bool.and_true] at h2
  rw [Bool.eq_iff_iff, decide_eq_true_iff]
  cases hd : dupB l with
  | false => rw [hd] at h2; simp at h2 ⊢; omega
  | true => rw [hd] at h2; simp at h2 ⊢; omega
def setS (l : List ByteArray) : DataW Unit := setOf (.agg []) (l.map litS)
theorem setS_size (l : List ByteArray) : Maps.size (setS l) = (addAll [] l).length := by
  unfold setS
  rw [size_setOf _ _ (by intro x hx; obtain ⟨s, _, rfl⟩ := List.mem_map.1 hx; exact litS_key s)]
  have := fold_lit l []
  rw [List.map_nil] at this
  rw [this, List.length_map]
theorem setS_snoc (l : List ByteArray) (s : ByteArray) : setS (l ++ [s]) = (setS l).put (litS s) (.agg []) := by
  unfold setS
  rw [List.map_append]
  exact setOf_snoc _ _ _
set_option maxRecDepth 100000 in
set_option maxHeartbeats 2000000 in
theorem repeats_in (p : Option Addr) (n c : Nat) (ss : List ByteArray) (w : World) (hl : Hid (ss.length = n)) (hn : n ≤ 100000) (hs : Hid (∀ s ∈ ss, s.size ≤ 1000)) (hp : Hid (n ≠ 0 → ∃ b off, p = some ⟨b, off, none⟩ ∧ b < w.heap.size ∧ CellsIn w b off (strCells ss))) :
    Calls Tryz.prog 31 #[.slice p n c] w (RB (dupB ss) w) := by
  have hmm := @run_makeMap Tryz.prog
  obtain ⟨R, hR⟩ : ∃ R, R = dupB ss := ⟨_, rfl⟩
  rw [← hR]
  have HR := Lib.hid hR
  clear hR
  go_enter Tryz.func31, Tryz.ntmps31
  go_wp2
  go_loopw [9] (fun s9 wr => ∃ j : Nat, j ≤ n ∧ s9 = .int .i64 (j : Int) ∧ wr.ownsMap Tryz.prog 9 (unitElem (H := Unit)) w.heap.size j (setS (ss.take j)) ∧ Below w.heap.size w wr) (fun s9 _ => n - (intOf s9).toNat)
  case atStart => exact ⟨0, Nat.zero_le _, rfl, World.ownsMap_made _ _ _ _, (Below.refl _ _).alloc (Nat.le_refl _) _⟩
  case round =>
    obtain ⟨wo, hwo⟩ : ∃ wo : World, wo = wr := ⟨_, rfl⟩
    subst hwo
    obtain ⟨j, hj, rfl, hown, hbel⟩ := hrel
    have OWN := Lib.hid hown
    have BEL := Lib.hid hbel
    clear hown hbel
    by_cases hlt : j < n
    · obtain ⟨b, off, rfl, hb, hc⟩ := hp.out (by omega)
      have hjl : j < ss.length := by rw [hl.out]; exact hlt
      have c0 := (hc.kept (BEL.out.block b hb)).str j hjl
      have hss := hs.out (ss.getD j default) (by rw [List.getD_eq_getElem?_getD, List.getElem?_eq_getElem hjl]; exact List.getElem_mem hjl)
      have ST : Hid (setS (ss.take (j + 1)) = (setS (ss.take j)).put (litS (ss.getD j default)) (.agg [])) := Lib.hid (by rw [← setS_snoc, List.take_succ_eq_append_getElem hjl, List.getD_eq_getElem?_getD, List.getElem?_eq_getElem hjl]; rfl)
      obtain ⟨t, ht⟩ : ∃ t, t = ss.getD j default := ⟨_, rfl⟩
      rw [← ht] at c0 hss ST
      clear ht hc hp hjl
      have hkey := Lib.hid (keyS t hss)
      have hltz : ((j : Int) < (n : Int)) := by omega
      clear hss
      go_wp2_with (at_mapUpdate; refine wpList_mapUpdate_own _ rfl _ _ _ 99 rfl 9 100 law9 Tryz.underlying99 (unitElem (H := Unit)) w.heap.size j _ rfl OWN.out (by unfold maxLen; omega) _ _ _ rfl rfl hkey.out _ [] unitElem_mk ?_; intro w1 hown1 hgrow1; have OWN1 := Lib.hid hown1; have HG := Lib.hid hgrow1; clear hown1 hgrow1)
      go_roundw
      case rel =>
        exact ⟨j + 1, hlt, by go_num, by rw [ST.out]; exact OWN1.out, BEL.out.grown HG.out BEL.out.size (fun k hk => by cases hk; exact Nat.le_refl _)⟩
      case measure => simp [intOf]; omega
    · obtain rfl : j = n := by omega
      have SZ : Hid (Maps.size (setS (ss.take j)) = (addAll [] ss).length) := Lib.hid (by rw [List.take_of_length_le (by rw [hl.out]; omega)]; exact setS_size ss)
      go_wp2_with (first | (at_len; refine wpList_len_own _ rfl _ 99 rfl 9 100 Tryz.underlying99 _ w.heap.size j _ rfl OWN.out ?_) | go_in)
      go_ret
      refine ⟨ret_b ?_, BEL.out⟩
      rw [SZ.out, HR.out, ← dup_len, hl.out]
theorem repeats_any (v : Value) (ss : List ByteArray) (w : World) (h : StrsAt w v ss) (hn : ss.length ≤ 100000) (hs : ∀ s ∈ ss, s.size ≤ 1000) : Calls Tryz.prog 31 #[v] w (RB (dupB ss) w) := by
  obtain ⟨_, p, c, rfl, _, _, hp⟩ := h
  exact repeats_in p ss.length c ss w (Lib.hid rfl) hn (Lib.hid hs) (Lib.hid hp)
end Go.Proofs.YtggjckalmlploaaGreatDoor
