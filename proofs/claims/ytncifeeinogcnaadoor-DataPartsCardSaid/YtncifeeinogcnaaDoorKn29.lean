/- Texts of this seat, one behind the other: DfA. -/
import Derived.Test.YtncifeeinogcnaaDoorKn20
/- The document's Few for declarations: what is few. -/
set_option maxRecDepth 100000
namespace Go.Proofs.YtncifeeinogcnaaDoor
open Go.Shelf Go.RowKit Go.Lib Go.Sort Go.Maps Go.Proofs.TreeMath Go.Proofs.LexMath

theorem nodes_form2 {w : World} {v : Value} {L : List Nd} (h : NodesAt w v L) : ∃ p c, v = .slice p L.length c := by obtain ⟨_, p, c, e, _⟩ := h; exact ⟨p, c, e⟩
theorem lists_cell2 {w : World} {v : Value} {Ls : List (List Nd)} (h : ListsAt w v Ls) (i : Nat) (hi : i < Ls.length) : ∃ b off c q cc, v = .slice (some ⟨b, off, none⟩) Ls.length c ∧ b < w.heap.size ∧ w.cell? ⟨b, off + i, none⟩ = some (.slice q (Ls.getD i []).length cc) ∧ NodesAt w (.slice q (Ls.getD i []).length cc) (Ls.getD i []) := by
  obtain ⟨vs, ⟨hvl, lq, lc, rfl, _, _, hp⟩, hvs⟩ := h
  obtain ⟨b, off, rfl, hb, hc⟩ := hp (by omega)
  have n := hvs i hi
  obtain ⟨q, cc, e⟩ := nodes_form2 n
  have c0 := hc i (vs.getD i default) (by rw [List.getD_eq_getElem?_getD, List.getElem?_eq_getElem (by omega)]; rfl)
  rw [e] at c0 n
  exact ⟨b, off, lc, q, cc, rfl, hb, c0, n⟩
def FewC (c : Ct) : Prop := c.name.size ≤ 60 ∧ c.args.length ≤ 10 ∧ ∀ t ∈ c.args, t.length ≤ 60 ∧ ∀ n ∈ t, n.text.size ≤ 60
def FewDt (d : Dt) : Prop := d.name.size ≤ 60 ∧ d.cons.length ≤ 70 ∧ ∀ c ∈ d.cons, FewC c
def FewDs (ds : List Dt) : Prop := ds.length ≤ 70 ∧ ∀ d ∈ ds, FewDt d
def FwP (ds : List Dt) (w : World) (e : Ending) (w' : World) : Prop := ∃ b : Bool, e = .returned (.bool b) ∧ (b = true → FewDs ds) ∧ Below w.heap.size w w'
theorem all_take_succ {α : Type} [Inhabited α] (P : α → Prop) (l : List α) (i : Nat) (hi : i < l.length) (h : ∀ x ∈ l.take i, P x) (hx : P (l.getD i default)) : ∀ x ∈ l.take (i + 1), P x := by
  intro x hm
  rw [List.take_succ_eq_append_getElem hi] at hm
  rcases List.mem_append.1 hm with h1 | h1
  · exact h x h1
  · rw [List.mem_singleton] at h1
    rw [h1]
    rw [List.getD_eq_getElem?_getD, List.getElem?_eq_getElem hi] at hx
    exact hx
theorem all_take_all {α : Type} (P : α → Prop) (l : List α) (i : Nat) (hi : i = l.length) (h : ∀ x ∈ l.take i, P x) : ∀ x ∈ l, P x := by
  rw [hi, List.take_length] at h; exact h
theorem wrapN (a b c : Nat) (e : c = a + b) (h : c ≤ 9223372036854775807) : IntKind.i64.wrap ((a : Int) + (b : Int)) = (c : Int) := by
  rw [IntKind.wrap_i64]
  omega
theorem node_text {w : World} {v : Value} {L : List Nd} (h : NodesAt w v L) (i : Nat) (hi : i < L.length) : ∃ b off c, v = .slice (some ⟨b, off, none⟩) L.length c ∧ b < w.heap.size ∧ w.cell? ⟨b, off + i * 4 + 1, none⟩ = some (.string (L.getD i default).text) := by
  obtain ⟨_, p, c, rfl, _, _, h4⟩ := h
  obtain ⟨b, off, rfl, hb, hc⟩ := h4 (by omega)
  exact ⟨b, off, c, rfl, hb, (CellsIn.node hc i hi).2.1⟩
set_option maxHeartbeats 4000000 in
theorem dfew_any (lv : Value) (ds : List Dt) (w : World) (h : DtsAt w lv ds) : Calls Tryd.prog 8 #[lv] w (FwP ds w) := by
  have H := Lib.hid h
  obtain ⟨lq, lc, rfl⟩ := h.form
  obtain ⟨n, hnn⟩ : ∃ n, n = ds.length := ⟨_, rfl⟩
  have HN := Lib.hid hnn
  have NO : Hid (∀ w', Below w.heap.size w w' → FwP ds w (.returned (.bool false)) w') := Lib.hid fun w' h => ⟨false, rfl, fun e => by simp at e, h⟩
  have YES : Hid (∀ w', Below w.heap.size w w' → FewDs ds → FwP ds w (.returned (.bool true)) w') := Lib.hid fun w' h e => ⟨true, rfl, fun _ => e, h⟩
  have MX : Hid (n ≤ maxLen) := Lib.hid (by obtain ⟨_, p, c, e, h1, h2, _⟩ := h.1; omega)
  rw [← hnn]
  generalize FwP ds w = Z at *
  clear h hnn
  by_cases t70 : 70 < n
  · have t0 : decide ((70 : Int) < (n : Int)) = true := decide_eq_true (by omega)
    go_enter Tryd.func8, Tryd.ntmps8
    go_wp2
    first | go_ret | skip
    exact NO.out _ (Below.refl _ _)
  · have t0 : decide ((70 : Int) < (n : Int)) = false := decide_eq_false (by omega)
    have N70 : n ≤ 70 := by omega
    clear t70 MX
    go_enter Tryd.func8, Tryd.ntmps8
    go_wp2
    go_loopw [3, 4] (fun s3 s4 wr => ∃ i : Nat, i ≤ n ∧ s4 = .int .i64 i ∧ (∃ k : Nat, s3 = .int .i64 k ∧ k ≤ 300) ∧ Hid (Below w.heap.size w wr) ∧ Hid (∀ d ∈ ds.take i, FewDt d)) (fun _ s4 _ => n - (intOf s4).toNat)
    case atStart => exact ⟨0, Nat.zero_le _, rfl, ⟨0, rfl, by omega⟩, Lib.hid (Below.refl _ _), Lib.hid fun d hd => by simp at hd⟩
    case round =>
      obtain ⟨wo, hwo⟩ : ∃ wo : World, wo = wr := ⟨_, rfl⟩
      subst hwo
      obtain ⟨i, hi, rfl, ⟨k, rfl, hk⟩, hB, hF⟩ := hrel
      by_cases hlt : i < n
      · have t1 : decide ((i : Int) < (n : Int)) = true := by simpa using hlt
        have D := H.out.below hB.out
        obtain ⟨b, o, c, e, hb, c0, c1, c2⟩ := D.cell i (by rw [← HN.out]; exact hlt)
        simp only [Value.slice.injEq] at e
        obtain ⟨rfl, -, -⟩ := e
        have DM := getD_mem ds i (by rw [← HN.out]; exact hlt)
        have CF := Lib.hid (D.2 _ DM)
        have NXT : Hid (FewDt (ds.getD i default) → ∀ d ∈ ds.take (i + 1), FewDt d) := Lib.hid fun h => all_take_succ _ ds i (by rw [← HN.out]; exact hlt) hF.out h
        obtain ⟨d, hd⟩ : ∃ d, d = ds.getD i default := ⟨_, rfl⟩
        rw [← hd] at c0 c1 c2 CF NXT
        obtain ⟨lq2, lc2, ecv⟩ := CF.out.form
        obtain ⟨m, hm⟩ : ∃ m, m = d.cons.length := ⟨_, rfl⟩
        rw [← hm] at ecv
        rw [ecv] at c2
        have HM := Lib.hid hm
        have ECV := Lib.hid ecv
        obtain ⟨dn, hdn⟩ : ∃ dn, dn = d.name := ⟨_, rfl⟩
        rw [← hdn] at c0
        have HDN := Lib.hid hdn
        clear D DM hd ecv hm hF c1 hdn
        by_cases t2 : 70 < m
        · have t2' : decide ((70 : Int) < (m : Int)) = true := decide_eq_true (by omega)
          have F := Lib.hid (NO.out _ hB.out)
          clear NXT hB CF t2
          go_wp2
          first | go_ret | skip
          exact F.out
        · have t2' : decide ((70 : Int) < (m : Int)) = false := decide_eq_false (by omega)
          have M70 : m ≤ 70 := by omega
          by_cases t3 : 60 < dn.size
          · have t3' : decide ((60 : Int) < (dn.size : Int)) = true := decide_eq_true (by omega)
            have F := Lib.hid (NO.out _ hB.out)
            clear NXT hB CF t3
            go_wp2
            first | go_ret | skip
            exact F.out
          · have t3' : decide ((60 : Int) < (dn.size : Int)) = false := decide_eq_false (by omega)
            have NXT2 : Hid ((∀ c ∈ d.cons, FewC c) → ∀ d ∈ ds.take (i + 1), FewDt d) := Lib.hid fun h => NXT.out ⟨by rw [← HDN.out]; omega, by rw [← HM.out]; exact M70, h⟩
            have BO := Lib.hid hB.out
            have HBL := Lib.hid hb
            clear NXT hB t2 t3
            go_wp2
            go_loopw [3, 5] (fun s3 s5 wx => ∃ j : Nat, j ≤ m ∧ s5 = .int .i64 j ∧ (∃ k : Nat, s3 = .int .i64 k ∧ k ≤ 300) ∧ Hid (Below wo.heap.size wo wx) ∧ Hid (∀ c ∈ d.cons.take j, FewC c)) (fun _ s5 _ => m - (intOf s5).toNat)
            case atStart => exact ⟨0, Nat.zero_le _, rfl, ⟨k, rfl, hk⟩, Lib.hid (Below.refl _ _), Lib.hid fun d hd => by simp at hd⟩
            case round =>
              obtain ⟨wx, hwx⟩ : ∃ wx : World, wx = wr := ⟨_, rfl⟩
              subst hwx
              clear hk
              obtain ⟨j, hj, rfl, ⟨k, rfl, hk⟩, hB2, hF2⟩ := hrel
              have cx2 := (hB2.out.cell (p := ⟨b, o + i * 3 + 2, none⟩) HBL.out).trans c2
              by_cases hlt2 : j < m
              · have t4 : decide ((j : Int) < (m : Int)) = true := by simpa using hlt2
                have CC := CF.out.below hB2.out
                obtain ⟨b2, o2, c2', e2, hb2, k0, k1⟩ := CC.cell j (by rw [← HM.out]; exact hlt2)
                rw [ECV.out] at e2
                simp only [Value.slice.injEq] at e2
                obtain ⟨rfl, -, -⟩ := e2
                have CM := getD_mem d.cons j (by rw [← HM.out]; exact hlt2)
                have NX3 : Hid (FewC (d.cons.getD j default) → ∀ c ∈ d.cons.take (j + 1), FewC c) := Lib.hid fun h => all_take_succ _ d.cons j (by rw [← HM.out]; exact hlt2) hF2.out h
                have LA0 := CC.2 _ CM
                obtain ⟨ct, hct⟩ : ∃ ct, ct = d.cons.getD j default := ⟨_, rfl⟩
                rw [← hct] at k0 k1 NX3 LA0
                obtain ⟨aq, ac, eav⟩ := LA0.form
                obtain ⟨q, hq⟩ : ∃ q, q = ct.args.length := ⟨_, rfl⟩
                rw [← hq] at eav
                rw [eav] at k1 LA0
                have HQ := Lib.hid hq
                obtain ⟨cn, hcn⟩ : ∃ cn, cn = ct.name := ⟨_, rfl⟩
                rw [← hcn] at k0
                have HCN := Lib.hid hcn
                have BX : Hid (Below wx.heap.size wx (wx.alloc (.cells #[.string cn, .slice aq q ac] 33))) := Lib.hid ((Below.refl _ _).alloc (Nat.le_refl _) _)
                have HXH := heap_alloc_new wx (.cells #[.string cn, .slice aq q ac] 33)
                have y0 := Lib.cell_of_heap HXH 0
                have y1 := Lib.cell_of_heap HXH 1
                simp only [List.getElem?_toArray, List.getElem?_cons_succ, List.getElem?_cons_zero] at y0 y1
                have BXO : Hid (Below wo.heap.size wo (wx.alloc (.cells #[.string cn, .slice aq q ac] 33))) := Lib.hid (hB2.out.trans (BX.out.mono hB2.out.size))
                have LX := Lib.hid (LA0.below BX.out)
                have F := Lib.hid (NO.out _ (BO.out.trans (BXO.out.mono BO.out.size)))
                have NEXT : Hid (Below wo.heap.size wo (wx.alloc (.cells #[.string cn, .slice aq q ac] 33))) := BXO
                clear CC CM hct eav hq hcn hF2 HXH LA0 hB2 hb2 BX
                by_cases t5 : 60 < cn.size
                · have t5' : decide ((60 : Int) < (cn.size : Int)) = true := decide_eq_true (by omega)
                  clear NX3 LX BXO NEXT t5
                  go_wp2
                  first | go_ret | skip
                  exact F.out
                · have t5' : decide ((60 : Int) < (cn.size : Int)) = false := decide_eq_false (by omega)
                  by_cases t6 : 10 < q
                  · have t6' : decide ((10 : Int) < (q : Int)) = true := decide_eq_true (by omega)
                    clear NX3 LX BXO NEXT t5 t6
                    go_wp2
                    first | go_ret | skip
                    exact F.out
                  · have t6' : decide ((10 : Int) < (q : Int)) = false := decide_eq_false (by omega)
                    have Q10 : q ≤ 10 := by omega
                    have NX4 : Hid ((∀ t ∈ ct.args, t.length ≤ 60 ∧ ∀ n ∈ t, n.text.size ≤ 60) → ∀ c ∈ d.cons.take (j + 1), FewC c) := Lib.hid fun h => NX3.out ⟨by rw [← HCN.out]; omega, by rw [← HQ.out]; omega, h⟩
                    clear NX3 t5 t6 NEXT
                    go_wp2
                    go_loop [3, 7] (fun s3 s7 => ∃ a : Nat, a ≤ q ∧ s7 = .int .i64 a ∧ (∃ k : Nat, s3 = .int .i64 k ∧ k ≤ 300) ∧ Hid (∀ t ∈ ct.args.take a, t.length ≤ 60 ∧ ∀ n ∈ t, n.text.size ≤ 60)) (fun _ s7 => q - (intOf s7).toNat)
                    case atStart => exact ⟨0, Nat.zero_le _, rfl, ⟨k, rfl, hk⟩, Lib.hid fun d hd => by simp at hd⟩
                    case round =>
                      clear hk
                      obtain ⟨a, ha, rfl, ⟨k, rfl, hk⟩, hF3⟩ := hrel
                      by_cases hlt3 : a < q
                      · have t7 : decide ((a : Int) < (q : Int)) = true := by simpa using hlt3
                        obtain ⟨b3, o3, c3, q3, cc3, e3, hb3, x0, na⟩ := lists_cell2 LX.out a (by rw [← HQ.out]; exact hlt3)
                        simp only [Value.slice.injEq] at e3
                        obtain ⟨rfl, -, -⟩ := e3
                        have NX5 : Hid (((ct.args.getD a []).length ≤ 60 ∧ ∀ n ∈ ct.args.getD a [], n.text.size ≤ 60) → ∀ t ∈ ct.args.take (a + 1), t.length ≤ 60 ∧ ∀ n ∈ t, n.text.size ≤ 60) := Lib.hid fun h => all_take_succ (α := List Nd) _ ct.args a (by rw [← HQ.out]; exact hlt3) hF3.out h
                        obtain ⟨L, hL⟩ : ∃ L, L = ct.args.getD a [] := ⟨_, rfl⟩
                        rw [← hL] at x0 na NX5
                        obtain ⟨z, hz⟩ : ∃ z, z = L.length := ⟨_, rfl⟩
                        rw [← hz] at x0
                        have HZ := Lib.hid hz
                        obtain ⟨kz, hkz⟩ : ∃ kz : Int, kz = IntKind.i64.wrap ((k : Int) + (z : Int)) := ⟨_, rfl⟩
                        have ADD : IntKind.i64.wrap ((k : Int) + (z : Int)) = kz := hkz.symm
                        have KZ : Hid (z ≤ 60 → kz = ((k + z : Nat) : Int)) := Lib.hid fun h => by rw [hkz]; exact wrapN k z (k + z) rfl (by omega)
                        have NA := Lib.hid na
                        clear hL hz na hF3 hkz hb3
                        go_wp2
                        go_loop [8] (fun s8 => ∃ x : Nat, x ≤ z ∧ x ≤ 61 ∧ s8 = .int .i64 x ∧ Hid (∀ n ∈ L.take x, n.text.size ≤ 60)) (fun s8 => z - (intOf s8).toNat)
                        case atStart => exact ⟨0, Nat.zero_le _, by omega, rfl, Lib.hid fun d hd => by simp at hd⟩
                        case round =>
                          obtain ⟨x, hx, hx61, rfl, hF4⟩ := hrel
                          by_cases hlt4 : x < z
                          · have t8 : decide ((x : Int) < (z : Int)) = true := by simpa using hlt4
                            by_cases hlt5 : x < 61
                            · have t9 : decide ((x : Int) < (61 : Int)) = true := decide_eq_true (by omega)
                              obtain ⟨b4, o4, c4, e4, hb4, n1⟩ := node_text NA.out x (by rw [← HZ.out]; exact hlt4)
                              simp only [Value.slice.injEq] at e4
                              obtain ⟨rfl, -, -⟩ := e4
                              have NX6 : Hid ((L.getD x default).text.size ≤ 60 → ∀ n ∈ L.take (x + 1), n.text.size ≤ 60) := Lib.hid fun h => all_take_succ _ L x (by rw [← HZ.out]; exact hlt4) hF4.out h
                              obtain ⟨tx, htx⟩ : ∃ tx, tx = (L.getD x default).text := ⟨_, rfl⟩
                              rw [← htx] at n1 NX6
                              clear htx hF4 hb4
                              by_cases t10 : 60 < tx.size
                              · have t10' : decide ((60 : Int) < (tx.size : Int)) = true := decide_eq_true (by omega)
                                go_wp2
                                first | go_ret | skip
                                exact F.out
                              · have t10' : decide ((60 : Int) < (tx.size : Int)) = false := decide_eq_false (by omega)
                                have G := Lib.hid (NX6.out (by omega))
                                clear NX6
                                go_wp2
                                go_round
                                case rel => exact ⟨x + 1, by omega, by omega, by go_num, G⟩
                                case measure => simp [intOf]; omega
                            · have t9 : decide ((x : Int) < (61 : Int)) = false := decide_eq_false (by omega)
                              have t11 : decide ((60 : Int) < (z : Int)) = true := decide_eq_true (by omega)
                              clear hF4 NA
                              go_wp2
                              first | go_ret | skip
                              exact F.out
                          · obtain rfl : x = z := by omega
                            have t8 : decide ((x : Int) < (x : Int)) = false := by simp
                            by_cases t11 : 60 < x
                            · have t11' : decide ((60 : Int) < (x : Int)) = true := decide_eq_true (by omega)
                              clear hF4 NA
                              go_wp2
                              first | go_ret | skip
                              exact F.out
                            · have t11' : decide ((60 : Int) < (x : Int)) = false := decide_eq_false (by omega)
                              obtain ⟨kn, hkn, rfl⟩ : ∃ kn : Nat, kn = k + x ∧ kz = (kn : Int) := ⟨k + x, rfl, KZ.out (by omega)⟩
                              by_cases t12 : 300 < kn
                              · have t12' : decide ((300 : Int) < (kn : Int)) = true := decide_eq_true (by omega)
                                clear hF4 NA KZ hkn
                                go_wp2
                                first | go_ret | skip
                                exact F.out
                              · have t12' : decide ((300 : Int) < (kn : Int)) = false := decide_eq_false (by omega)
                                have G := Lib.hid (NX5.out ⟨by rw [← HZ.out]; omega, all_take_all _ L x HZ.out hF4.out⟩)
                                clear hF4 NA NX5 KZ hkn
                                go_wp2
                                go_round
                                case rel => exact ⟨a + 1, by omega, by go_num, ⟨kn, rfl, by omega⟩, G⟩
                                case measure => simp [intOf]; omega
                      · obtain rfl : a = q := by omega
                        have t7 : decide ((a : Int) < (a : Int)) = false := by simp
                        have G := Lib.hid (NX4.out (all_take_all _ ct.args a HQ.out hF3.out))
                        clear hF3 NX4 LX
                        go_wp2
                        go_roundw
                        case rel => exact ⟨j + 1, by omega, by go_num, ⟨k, rfl, hk⟩, BXO, G⟩
                        case measure => simp [intOf]; omega
              · obtain rfl : j = m := by omega
                have t4 : decide ((j : Int) < (j : Int)) = false := by simp
                have G := Lib.hid (NXT2.out (all_take_all _ d.cons j HM.out hF2.out))
                have B3 := Lib.hid (BO.out.trans (hB2.out.mono BO.out.size))
                clear hF2 NXT2 CF hB2
                go_wp2
                go_roundw
                case rel => exact ⟨i + 1, by omega, by go_num, ⟨k, rfl, hk⟩, B3, G⟩
                case measure => simp [intOf]; omega
      · obtain rfl : i = n := by omega
        have t1 : decide ((i : Int) < (i : Int)) = false := by simp
        have F := Lib.hid (YES.out wo hB.out ⟨by rw [← HN.out]; exact N70, all_take_all _ ds i HN.out hF.out⟩)
        clear hB hF
        go_wp2
        first | go_ret | skip
        exact F.out
end Go.Proofs.YtncifeeinogcnaaDoor
