/- Texts of this seat, one behind the other: DfD, DfE. -/
import Derived.Test.YtncifeeinogcnaaGreatDoorKn33
import Derived.Test.YtncifeeinogcnaaGreatDoorKn21
import Derived.Test.YtncifeeinogcnaaGreatDoorKn20
/- The document's names: of all constructors. -/
set_option maxRecDepth 100000
namespace Go.Proofs.YtncifeeinogcnaaGreatDoor
open Go.Shelf Go.RowKit Go.Lib Go.Sort Go.Maps Go.Proofs.TreeMath Go.Proofs.LexMath

/-- All constructors' names. -/
def namesD (ds : List Dt) : List ByteArray := (pairsOf ds).map fun x => x.2.name
theorem namesD_take (ds : List Dt) (i : Nat) (hi : i < ds.length) : namesD (ds.take (i + 1)) = namesD (ds.take i) ++ (ds.getD i default).cons.map (·.name) := by
  unfold namesD
  rw [pairs_take ds i hi, List.map_append, List.map_map]
  rfl
theorem namesD_len (ds : List Dt) (k : Nat) (h : ∀ d ∈ ds, d.cons.length ≤ k) : (namesD ds).length ≤ ds.length * k := by
  unfold namesD
  rw [List.length_map]
  induction ds with
  | nil => simp [pairsOf]
  | cons d ds ih =>
    have h1 := ih fun x hx => h x (List.mem_cons_of_mem _ hx)
    have h2 := h d (List.mem_cons_self ..)
    have e : pairsOf (d :: ds) = (d.cons.map fun c => (d, c)) ++ pairsOf ds := by unfold pairsOf; rw [List.flatMap_cons]
    rw [e, List.length_append, List.length_map, List.length_cons, Nat.succ_mul]
    omega
def NmP (L : List ByteArray) (w : World) (e : Ending) (w' : World) : Prop := ∃ v, e = .returned v ∧ SliceAt w' 1 v L.length (L.map Value.string) ∧ Below w.heap.size w w'
theorem info9 : ∃ i, Tryz.prog.info? 9 = some i ∧ i.zero = some (.string ⟨#[]⟩) ∧ i.size = 1 ∧ i.bytes = 16 := info_of' (by kernel_rfl)
set_option maxHeartbeats 4000000 in
theorem names_any (lv : Value) (ds : List Dt) (w : World) (h : DtsAt w lv ds) (hn : ds.length ≤ 70) (hc : ∀ d ∈ ds, d.cons.length ≤ 70) : Calls Tryz.prog 64 #[lv] w (NmP (namesD ds) w) := by
  obtain ⟨i0, hi, hz0, hz1, hz2⟩ := info9
  have HI := Lib.hid (And.intro hi (And.intro hz0 (And.intro hz1 hz2)))
  have H := Lib.hid h
  obtain ⟨lq, lc, rfl⟩ := h.form
  obtain ⟨n, hnn⟩ : ∃ n, n = ds.length := ⟨_, rfl⟩
  have HN := Lib.hid hnn
  have HC := Lib.hid hc
  have LEN : Hid (∀ l : List ByteArray, l.IsPrefix (namesD ds) → l.length ≤ 4900) := Lib.hid fun l hl => by
    have h1 := hl.length_le
    have h2 := namesD_len ds 70 hc
    have : ds.length * 70 ≤ 70 * 70 := Nat.mul_le_mul_right _ hn
    omega
  have E : Hid (∀ q cq w', w'.ownsRow w.heap.size 9 1 (.slice q (namesD ds).length cq) (namesD ds).length ((namesD ds).map Value.string) → Below w.heap.size w w' → NmP (namesD ds) w (.returned (.slice q (namesD ds).length cq)) w') := Lib.hid fun q cq w' h b => ⟨_, rfl, SliceAt.of_owns h, b⟩
  have TAKE := Lib.hid (fun i (hi : i < n) => namesD_take ds i (by rw [← hnn]; exact hi))
  have PRE : Hid (∀ i, i < n → ∀ j, j ≤ (ds.getD i default).cons.length → List.IsPrefix (namesD (ds.take i) ++ ((ds.getD i default).cons.take j).map (·.name)) (namesD ds)) := Lib.hid fun i hi j hj => by
    have e1 : namesD ds = namesD (ds.take (i + 1)) ++ namesD (ds.drop (i + 1)) := by
      unfold namesD; rw [← List.map_append]; congr 1; unfold pairsOf; rw [← List.flatMap_append, List.take_append_drop]
    rw [e1, TAKE.out i hi, List.append_assoc]
    refine List.prefix_append_right_inj _ |>.2 ?_
    refine ⟨((ds.getD i default).cons.drop j).map (·.name) ++ namesD (ds.drop (i + 1)), ?_⟩
    rw [← List.append_assoc, ← List.map_append, List.take_append_drop]
  have ALL : Hid (namesD (ds.take n) = namesD ds) := Lib.hid (by rw [hnn, List.take_length])
  have S0 : Hid ((w.alloc (.cells #[] 9)).ownsRow w.heap.size 9 1 (.slice (some ⟨w.heap.size, 0, none⟩) 0 0) 0 []) := Lib.hid (World.ownsRow_made w #[] 0 (Nat.le_refl _) (Nat.zero_le _) rfl)
  have B0 : Hid (Below w.heap.size w (w.alloc (.cells #[] 9))) := Lib.hid (box_keep _)
  rw [← hnn] at hn ⊢
  generalize hZ : NmP (namesD ds) w = Z at E ⊢
  clear h hnn hc hi hz0 hz1 hz2 hZ
  go_enter Tryz.func64, Tryz.ntmps64
  go_wp2
  go_loopw [3, 4] (fun s3 s4 wr => ∃ (i k : Nat) (q : Option Addr) (cq : Nat), i ≤ n ∧ s4 = .int .i64 i ∧ s3 = .slice q k cq ∧ Hid (k = (namesD (ds.take i)).length) ∧ Hid (wr.ownsRow w.heap.size 9 1 (.slice q k cq) k ((namesD (ds.take i)).map Value.string)) ∧ Hid (Below w.heap.size w wr)) (fun _ s4 _ => n - (intOf s4).toNat)
  case atStart => exact ⟨0, 0, _, _, Nat.zero_le _, rfl, rfl, Lib.hid rfl, S0, B0⟩
  case round =>
    obtain ⟨wo, hwo⟩ : ∃ wo : World, wo = wr := ⟨_, rfl⟩
    subst hwo
    obtain ⟨i, k, q, cq, hi, rfl, rfl, hK, hR, hB⟩ := hrel
    by_cases hlt : i < n
    · have t1 : decide ((i : Int) < (n : Int)) = true := by simpa using hlt
      obtain ⟨b, o, c, e, hb, _, _, cw⟩ := H.out.cell i (by rw [← HN.out]; exact hlt)
      simp only [Value.slice.injEq] at e
      obtain ⟨rfl, -, -⟩ := e
      have CF := Lib.hid (H.out.2 _ (getD_mem ds i (by rw [← HN.out]; exact hlt)))
      have PREI := Lib.hid (fun j hj => LEN.out _ (PRE.out i hlt j hj))
      have TAKEI := Lib.hid (TAKE.out i hlt)
      have DM := getD_mem ds i (by rw [← HN.out]; exact hlt)
      obtain ⟨d, hd⟩ : ∃ d, d = ds.getD i default := ⟨_, rfl⟩
      rw [← hd] at cw CF PREI TAKEI DM
      obtain ⟨lq2, lc2, ecv⟩ := CF.out.form
      obtain ⟨m, hm⟩ : ∃ m, m = d.cons.length := ⟨_, rfl⟩
      rw [← hm] at ecv PREI
      rw [ecv] at cw
      have m70 : m ≤ 70 := by rw [hm]; exact HC.out d DM
      have HM := Lib.hid hm
      have ECV := Lib.hid ecv
      have HBO := Lib.hid hb
      have CW := Lib.hid cw
      clear hd ecv hm hb cw DM
      go_wp2
      go_loopw [3, 5] (fun s3 s5 wr => ∃ (j k : Nat) (q : Option Addr) (cq : Nat), j ≤ m ∧ s5 = .int .i64 j ∧ s3 = .slice q k cq ∧ Hid (k = (namesD (ds.take i) ++ (d.cons.take j).map (·.name)).length) ∧ Hid (wr.ownsRow w.heap.size 9 1 (.slice q k cq) k ((namesD (ds.take i) ++ (d.cons.take j).map (·.name)).map Value.string)) ∧ Hid (Below w.heap.size w wr)) (fun _ s5 _ => m - (intOf s5).toNat)
      case atStart => exact ⟨0, k, q, cq, Nat.zero_le _, rfl, rfl, Lib.hid (by simpa using hK.out), Lib.hid (by simpa using hR.out), hB⟩
      case round =>
        clear hK hR hB
        obtain ⟨wx, hwx⟩ : ∃ wx : World, wx = wr := ⟨_, rfl⟩
        subst hwx
        obtain ⟨j, k, q, cq, hj, rfl, rfl, hK, hR, hB⟩ := hrel
        have c2 := (hB.out.cell (p := ⟨b, o + i * 3 + 2, none⟩) HBO.out).trans CW.out
        by_cases hlt2 : j < m
        · have t2 : decide ((j : Int) < (m : Int)) = true := by simpa using hlt2
          have CC := CF.out.below hB.out
          obtain ⟨b2, o2, c2', e2, hb2, k0, _⟩ := CC.cell j (by rw [← HM.out]; exact hlt2)
          rw [ECV.out] at e2
          simp only [Value.slice.injEq] at e2
          obtain ⟨rfl, -, -⟩ := e2
          have TK := Lib.hid (show d.cons.take (j + 1) = d.cons.take j ++ [d.cons.getD j default] by rw [List.take_succ_eq_append_getElem (by rw [← HM.out]; exact hlt2), List.getD_eq_getElem?_getD, List.getElem?_eq_getElem (by rw [← HM.out]; exact hlt2)]; rfl)
          have K49 := PREI.out j (by omega)
          rw [← hK.out] at K49
          obtain ⟨cn, hcn⟩ : ∃ cn, cn = (d.cons.getD j default).name := ⟨_, rfl⟩
          rw [← hcn] at k0
          have HCN := Lib.hid hcn
          obtain ⟨VS, hVS⟩ : ∃ VS, VS = (namesD (ds.take i) ++ (d.cons.take j).map (·.name)).map Value.string := ⟨_, rfl⟩
          have HVS := Lib.hid hVS
          have R0 := hR.out
          rw [← hVS] at R0
          have BK : Hid (Below wx.heap.size wx (wx.alloc (.cells #[.string cn] 9))) := Lib.hid (box_keep _)
          have R1 : Hid ((wx.alloc (.cells #[.string cn] 9)).ownsRow w.heap.size 9 1 (.slice q k cq) k VS) := Lib.hid (World.ownsRow.keep R0 fun g hg => (BK.out.block g (World.ownsRow.there R0 hg).2))
          have LC := Lib.hid (CellsIn.at (lit_at wx #[.string cn] 9))
          have HB : Hid (w.heap.size ≤ (wx.alloc (.cells #[.string cn] 9)).heap.size) := Lib.hid (Nat.le_trans hB.out.size BK.out.size)
          have HK : Hid (k + 1 ≤ maxLen ∧ (k + 1) * 16 ≤ 140737488355328) := Lib.hid (by constructor; unfold maxLen; omega; omega)
          have BW : Hid (Below w.heap.size w (wx.alloc (.cells #[.string cn] 9))) := Lib.hid (hB.out.trans (BK.out.mono hB.out.size))
          clear CC hb2 hcn hVS R0 K49 hB hR
          go_wp2_with ((at_builtin; refine wpList_append_any _ rfl _ _ 114 rfl w.heap.size 9 i0 (.string ⟨#[]⟩) 1 16 Tryz.underlying114 HI.out.1 HI.out.2.1 HI.out.2.2.1 HI.out.2.2.2 rfl (by decide) (.slice q k cq) k VS rfl R1.out (some ⟨wx.heap.size, 0, none⟩) 1 1 [.string cn] rfl rfl (fun _ => ⟨_, rfl, LC.out⟩) (by intro u hu; simp at hu; subst hu; rfl) HK.out.1 HK.out.2 HB.out ?_; intro p' cap' w5 hown hgrow hblk; have RN := Lib.hid hown; have GN := Lib.hid hgrow; clear hown hgrow hblk))
          have EV : Hid (VS ++ [.string cn] = (namesD (ds.take i) ++ (d.cons.take (j + 1)).map (·.name)).map Value.string) := Lib.hid (by rw [HVS.out, TK.out, HCN.out]; simp)
          have EK : Hid (k + 1 = (namesD (ds.take i) ++ (d.cons.take (j + 1)).map (·.name)).length) := Lib.hid (by rw [TK.out, hK.out]; simp; omega)
          have B5 : Hid (Below w.heap.size w w5) := Lib.hid (BW.out.grown GN.out HB.out fun g e => (World.ownsRow.there R1.out e).1)
          have R5 : Hid (w5.ownsRow w.heap.size 9 1 (.slice p' (k + 1) cap') (k + 1) ((namesD (ds.take i) ++ (d.cons.take (j + 1)).map (·.name)).map Value.string)) := Lib.hid (by rw [← EV.out]; exact RN.out)
          clear RN GN EV HVS R1 hK
          go_roundw
          case rel => exact ⟨j + 1, k + 1, p', cap', hlt2, by go_num, rfl, EK, R5, B5⟩
          case measure => simp [intOf]; omega
        · obtain rfl : j = m := by omega
          have t2 : decide ((j : Int) < (j : Int)) = false := by simp
          have EK : Hid (k = (namesD (ds.take (i + 1))).length) := Lib.hid (by rw [TAKEI.out, hK.out, HM.out, List.take_length])
          have R5 : Hid (wx.ownsRow w.heap.size 9 1 (.slice q k cq) k ((namesD (ds.take (i + 1))).map Value.string)) := Lib.hid (by have := hR.out; rw [HM.out, List.take_length] at this; rw [TAKEI.out]; exact this)
          clear hK hR CF PREI TAKEI
          go_wp2
          go_roundw
          case rel => exact ⟨i + 1, k, q, cq, hlt, by go_num, rfl, EK, R5, hB⟩
          case measure => simp [intOf]; omega
    · obtain rfl : i = n := by omega
      have t1 : decide ((i : Int) < (i : Int)) = false := by simp
      have F : Hid (Z (.returned (.slice q k cq)) wo) := Lib.hid (by
        have h1 := hK.out
        have h2 := hR.out
        rw [ALL.out] at h1 h2
        subst h1
        exact E.out q cq wo h2 hB.out)
      clear hB hR hK
      go_wp2
      first | go_ret | skip
      exact F.out
end Go.Proofs.YtncifeeinogcnaaGreatDoor
/- The document's Check: the same as the program's, by mathematics. -/
set_option maxRecDepth 100000
namespace Go.Proofs.YtncifeeinogcnaaGreatDoor
open Go.Shelf Go.RowKit Go.Lib Go.Sort Go.Maps Go.Proofs.TreeMath Go.Proofs.LexMath

theorem addB_same (acc : List ByteArray) (s : ByteArray) (h : s ∈ acc) : addB acc s = acc := by
  unfold addB
  rw [if_pos (List.any_eq_true.2 ⟨s, h, by simp⟩)]
theorem addB_new (acc : List ByteArray) (s : ByteArray) (h : s ∉ acc) : addB acc s = acc ++ [s] := by
  unfold addB
  rw [if_neg]
  rw [List.any_eq_true]
  rintro ⟨x, hx, e⟩
  simp only [decide_eq_true_eq] at e
  exact h (e ▸ hx)
theorem mem_addB (acc : List ByteArray) (s : ByteArray) : s ∈ addB acc s := by
  by_cases h : s ∈ acc
  · rw [addB_same acc s h]; exact h
  · rw [addB_new acc s h]; simp
theorem foldB_le : ∀ (l acc : List ByteArray), (l.foldl addB acc).length ≤ acc.length + l.length := by
  intro l
  induction l with
  | nil => intro acc; simp
  | cons s l ih =>
    intro acc
    rw [List.foldl_cons]
    have := ih (addB acc s)
    have h2 : (addB acc s).length ≤ acc.length + 1 := by
      by_cases h : s ∈ acc
      · rw [addB_same acc s h]; omega
      · rw [addB_new acc s h]; simp
    rw [List.length_cons]
    omega
theorem foldB_lt : ∀ (l acc : List ByteArray), acc.Nodup → ((l.foldl addB acc).length < acc.length + l.length ↔ ¬ (acc ++ l).Nodup) := by
  intro l
  induction l with
  | nil => intro acc h; simp [h]
  | cons s l ih =>
    intro acc h
    rw [List.foldl_cons, List.length_cons]
    by_cases hm : s ∈ acc
    · rw [addB_same acc s hm]
      have := foldB_le l acc
      constructor
      · intro _ hn
        rw [List.nodup_append] at hn
        exact hn.2.2 s hm s (List.mem_cons_self ..) rfl
      · intro _; omega
    · rw [addB_new acc s hm]
      have hn : (acc ++ [s]).Nodup := by
        rw [List.nodup_append]
        refine ⟨h, by simp, fun a ha b hb => ?_⟩
        rw [List.mem_singleton] at hb
        intro e; exact hm (hb ▸ e ▸ ha)
      have := ih (acc ++ [s]) hn
      rw [List.length_append, List.length_singleton, List.append_assoc, List.singleton_append] at this
      rw [← this]
      omega
theorem onceB_lt (l : List ByteArray) : (onceB l).length < l.length ↔ ¬ l.Nodup := by
  have := foldB_lt l [] List.nodup_nil
  simpa [onceB] using this
theorem fold_rep (s : ByteArray) (rest : List ByteArray) : ∀ (k : Nat) (acc : List ByteArray), s ∈ acc → (List.replicate k s ++ rest).foldl addB acc = rest.foldl addB acc := by
  intro k
  induction k with
  | zero => intro acc _; rfl
  | succ k ih =>
    intro acc h
    rw [List.replicate_succ, List.cons_append, List.foldl_cons, addB_same acc s h]
    exact ih acc h
theorem types_once (ds : List Dt) (h : ∀ d ∈ ds, 1 ≤ d.cons.length) : ∀ acc, ((pairsOf ds).map fun x => x.1.name).foldl addB acc = (ds.map (·.name)).foldl addB acc := by
  induction ds with
  | nil => intro acc; rfl
  | cons d ds ih =>
    intro acc
    have e : (pairsOf (d :: ds)).map (fun x => x.1.name) = List.replicate d.cons.length d.name ++ (pairsOf ds).map fun x => x.1.name := by
      unfold pairsOf
      rw [List.flatMap_cons, List.map_append, List.map_map]
      congr 1
      rw [List.eq_replicate_iff]
      refine ⟨by simp, fun b hb => ?_⟩
      obtain ⟨c, _, rfl⟩ := List.mem_map.1 hb
      rfl
    rw [e, List.map_cons, List.foldl_cons]
    obtain ⟨k, hk⟩ : ∃ k, d.cons.length = k + 1 := ⟨d.cons.length - 1, by have := h d (List.mem_cons_self ..); omega⟩
    rw [hk, List.replicate_succ, List.cons_append, List.foldl_cons, fold_rep _ _ _ _ (mem_addB acc d.name)]
    exact ih (fun x hx => h x (List.mem_cons_of_mem _ hx)) _
theorem repD_eq (ds : List Dt) (h : ∀ d ∈ ds, 1 ≤ d.cons.length) : repD ds = (decide (¬ (ds.map (·.name)).Nodup) || decide (¬ (namesD ds).Nodup)) := by
  unfold repD
  congr 1
  · refine decide_eq_decide.2 ?_
    have := onceB_lt (ds.map (·.name))
    unfold onceB at this ⊢
    rw [types_once ds h [], ← this, List.length_map]
  · refine decide_eq_decide.2 ?_
    have := onceB_lt (namesD ds)
    unfold namesD at this ⊢
    rw [List.length_map] at this
    exact this
/-- What is not declared, as the document tells it. -/
def lackN (ds : List Dt) (n : Nd) : Bool := decide (n.kind = 32) && nameB n.text && !knownB ds n
def lackR (ds : List Dt) : Bool := ds.any fun d => d.cons.any fun c => c.args.any fun t => t.any (lackN ds)
theorem env_at : ∀ (ds : List Dt) (f : Env) (s : ByteArray), (ds.map (·.name)).Nodup → (ds.foldl (fun f d => setE f d.name d.params) f) s = match ds.find? (fun d => decide (d.name = s)) with | some d => some d.params | none => f s := by
  intro ds
  induction ds with
  | nil => intro f s _; rfl
  | cons d ds ih =>
    intro f s hn
    rw [List.map_cons, List.nodup_cons] at hn
    rw [List.foldl_cons, ih _ _ hn.2, List.find?_cons]
    by_cases hd : d.name = s
    · have h1 : ds.find? (fun d => decide (d.name = s)) = none := by
        rw [List.find?_eq_none]
        intro x hx
        simp only [decide_eq_true_eq]
        intro e
        exact hn.1 (List.mem_map.2 ⟨x, hx, e.trans hd.symm⟩)
      rw [h1]
      simp only [hd, decide_true]
      unfold setE
      rw [if_pos rfl]
    · simp only [hd, decide_false]
      cases ds.find? (fun d => decide (d.name = s)) with
      | some x => rfl
      | none => simp only; unfold setE; rw [if_neg hd]
theorem names_inj : ∀ (ds : List Dt), (ds.map (·.name)).Nodup → ∀ x y, x ∈ ds → y ∈ ds → x.name = y.name → x = y := by
  intro ds
  induction ds with
  | nil => intro _ x y hx; simp at hx
  | cons d ds ih =>
    intro hn x y hx hy e
    rw [List.map_cons, List.nodup_cons] at hn
    rcases List.mem_cons.1 hx with hx1 | hx1
    · rcases List.mem_cons.1 hy with hy1 | hy1
      · rw [hx1, hy1]
      · exact absurd (List.mem_map.2 ⟨y, hy1, by rw [← hx1, e]⟩) hn.1
    · rcases List.mem_cons.1 hy with hy1 | hy1
      · exact absurd (List.mem_map.2 ⟨x, hx1, by rw [← hy1, e]⟩) hn.1
      · exact ih hn.2 x y hx1 hy1 e
theorem env0_name {s : ByteArray} (h : nameB s = true) : env0 s = none := by
  have h1 : s ≠ sArrow := fun e => by rw [e] at h; exact absurd h (by decide +kernel)
  have h2 : s ≠ sInt := fun e => by rw [e] at h; exact absurd h (by decide +kernel)
  have h3 : s ≠ sText := fun e => by rw [e] at h; exact absurd h (by decide +kernel)
  have h4 : s ≠ sRef := fun e => by rw [e] at h; exact absurd h (by decide +kernel)
  unfold env0 setE
  rw [if_neg (fun e => h4 e.symm), if_neg (fun e => h3 e.symm), if_neg (fun e => h2 e.symm), if_neg (fun e => h1 e.symm)]
theorem lack_node (ds : List Dt) (n : Nd) (hr : rightN n = true) (hnd : (ds.map (·.name)).Nodup) (hds : ∀ d ∈ ds, nameB d.name = true) : forP (envD ds) n = lackN ds n := by
  unfold forP lackN
  by_cases hk : n.kind = 32
  · rw [decide_eq_true hk, Bool.true_and, Bool.true_and]
    have hr2 : conB n.text n.kids = true := by
      unfold rightN at hr
      rw [if_neg (by omega), if_pos hk] at hr
      simp only [Bool.and_eq_true] at hr
      exact hr.2
    unfold envD
    rw [env_at ds env0 n.text hnd]
    cases hf : ds.find? (fun d => decide (d.name = n.text)) with
    | some d =>
      have hm := List.mem_of_find?_eq_some hf
      have he := List.find?_some hf
      simp only [decide_eq_true_eq] at he
      have hb : nameB n.text = true := by rw [← he]; exact hds d hm
      rw [hb, Bool.true_and]
      simp only [Option.isSome_some, Bool.not_true, Bool.false_or, Option.getD_some]
      have : knownB ds n = decide (d.params = n.kids) := by
        rw [Bool.eq_iff_iff]
        unfold knownB isD
        simp only [List.any_eq_true, Bool.and_eq_true, decide_eq_true_eq]
        constructor
        · rintro ⟨x, hx, h1, h2⟩
          obtain rfl : x = d := by
            exact names_inj ds hnd x d hx hm (h1.trans he.symm)
          exact h2
        · intro h; exact ⟨d, hm, he, h⟩
      rw [this]
      by_cases h : d.params = n.kids <;> simp [h]
    | none =>
      simp only
      have hno : knownB ds n = false := by
        unfold knownB isD
        rw [List.any_eq_false]
        intro x hx
        have := List.find?_eq_none.1 hf x hx
        simp only [decide_eq_true_eq] at this
        simp [this]
      rw [hno, Bool.not_false, Bool.and_true]
      cases hb : nameB n.text with
      | true => rw [env0_name hb]; rfl
      | false =>
        unfold conB at hr2
        unfold env0 setE
        split at hr2
        · rename_i h; rw [h]; simp only [beq_iff_eq] at hr2; rw [hr2]; decide +kernel
        · rename_i h1
          split at hr2
          · rename_i h; rw [h]; simp only [beq_iff_eq] at hr2; rw [hr2]; decide +kernel
          · rename_i h2
            split at hr2
            · rename_i h; rw [h]; simp only [beq_iff_eq] at hr2; rw [hr2]; decide +kernel
            · rename_i h3
              split at hr2
              · rename_i h; rw [h]; simp only [beq_iff_eq] at hr2; rw [hr2]; decide +kernel
              · rw [hb, Bool.and_false] at hr2
                simp at hr2
  · rw [decide_eq_false hk, Bool.false_and, Bool.false_and, Bool.false_and]
theorem any_congr' {α : Type} (l : List α) (p q : α → Bool) (h : ∀ x ∈ l, p x = q x) : l.any p = l.any q := by
  rw [Bool.eq_iff_iff, List.any_eq_true, List.any_eq_true]
  exact ⟨fun ⟨x, hx, e⟩ => ⟨x, hx, by rw [← h x hx]; exact e⟩, fun ⟨x, hx, e⟩ => ⟨x, hx, by rw [h x hx]; exact e⟩⟩
theorem rightD_cons' {d : Dt} (h : rightD d = true) : ∀ c ∈ d.cons, rightC d.params c = true := by
  unfold rightD at h
  simp only [Bool.and_eq_true] at h
  exact List.all_eq_true.1 h.2
theorem lack_eq (ds : List Dt) (hr : ∀ d ∈ ds, rightD d = true) (hnd : (ds.map (·.name)).Nodup) : lackD ds = lackR ds := by
  have hds : ∀ d ∈ ds, nameB d.name = true := fun d hd => by
    have := hr d hd
    unfold rightD at this
    simp only [Bool.and_eq_true] at this
    exact this.1.1.1.1.1
  unfold lackD lackR
  refine any_congr' ds _ _ fun d hd => any_congr' d.cons _ _ fun c hc => ?_
  unfold hasP
  refine any_congr' c.args _ _ fun t ht => any_congr' t _ _ fun n hn => ?_
  have h1 := rightD_cons' (hr d hd) c hc
  unfold rightC at h1
  simp only [Bool.and_eq_true] at h1
  have h2 := List.all_eq_true.1 h1.1.2 t ht
  unfold tyB at h2
  simp only [Bool.and_eq_true] at h2
  exact lack_node ds n (List.all_eq_true.1 h2.2 n hn) hnd hds
/-- What the document's Check answers. -/
def rckD (ds : List Dt) : Int := if (decide (60 < ds.length) || ds.any fun d => !rightD d) = true then 100 else if (decide (¬ (ds.map (·.name)).Nodup) || decide (¬ (namesD ds).Nodup)) = true then 101 else if lackR ds = true then 102 else 0
theorem rckD_eq (ds : List Dt) : rckD ds = checkD ds := by
  unfold rckD checkD
  by_cases h : (decide (60 < ds.length) || ds.any fun d => !rightD d) = true
  · rw [if_pos h, if_pos h]
  · rw [if_neg h, if_neg h]
    simp only [Bool.or_eq_true, not_or, Bool.not_eq_true, List.any_eq_false] at h
    have hr : ∀ d ∈ ds, rightD d = true := fun d hd => by have := h.2 d hd; simpa using this
    rw [repD_eq ds fun d hd => (rightD_le (hr d hd)).2.2.1]
    by_cases h2 : (decide (¬ (ds.map (·.name)).Nodup) || decide (¬ (namesD ds).Nodup)) = true
    · rw [if_pos h2, if_pos h2]
    · rw [if_neg h2, if_neg h2, lack_eq ds hr]
      simp only [Bool.or_eq_true, not_or, decide_eq_true_eq, Classical.not_not] at h2
      exact h2.1
end Go.Proofs.YtncifeeinogcnaaGreatDoor
