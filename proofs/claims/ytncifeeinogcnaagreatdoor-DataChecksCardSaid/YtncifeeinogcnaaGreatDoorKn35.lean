/- Texts of this seat, one behind the other: DfF. -/
import Derived.Test.YtncifeeinogcnaaGreatDoorKn34
/- The document's Check. -/
set_option maxRecDepth 100000
namespace Go.Proofs.YtncifeeinogcnaaGreatDoor
open Go.Shelf Go.RowKit Go.Lib Go.Sort Go.Maps Go.Proofs.TreeMath Go.Proofs.LexMath

theorem nodup_take_succ (l : List ByteArray) (i : Nat) (hi : i < l.length) (h : (l.take i).Nodup) (hx : l.getD i default ∉ l.take i) : (l.take (i + 1)).Nodup := by
  rw [List.take_succ_eq_append_getElem hi, List.nodup_append]
  rw [List.getD_eq_getElem?_getD, List.getElem?_eq_getElem hi] at hx
  refine ⟨h, by simp, fun a ha b hb e => ?_⟩
  rw [List.mem_singleton] at hb
  exact hx (by rw [Option.getD_some, ← hb, ← e]; exact ha)
theorem dup_at (l : List ByteArray) (k i : Nat) (hk : k < i) (hi : i < l.length) (e : l.getD k default = l.getD i default) : ¬ l.Nodup := by
  intro h
  rw [List.getD_eq_getElem?_getD, List.getD_eq_getElem?_getD, List.getElem?_eq_getElem hi, List.getElem?_eq_getElem (by omega)] at e
  exact List.pairwise_iff_getElem.1 h k i (by omega) hi hk (by simpa using e)
theorem notmem_take_succ (l : List ByteArray) (k : Nat) (x : ByteArray) (hk : k < l.length) (h : x ∉ l.take k) (hx : l.getD k default ≠ x) : x ∉ l.take (k + 1) := by
  rw [List.take_succ_eq_append_getElem hk, List.mem_append, List.mem_singleton]
  rw [List.getD_eq_getElem?_getD, List.getElem?_eq_getElem hk, Option.getD_some] at hx
  rintro (h1 | h1)
  · exact h h1
  · exact hx h1.symm
theorem nodup_of_take (l : List ByteArray) (i : Nat) (hi : i = l.length) (h : (l.take i).Nodup) : l.Nodup := by rw [hi, List.take_length] at h; exact h
theorem map_getD_name (ds : List Dt) (i : Nat) (hi : i < ds.length) : (ds.map (·.name)).getD i default = (ds.getD i default).name := by
  rw [List.getD_eq_getElem?_getD, List.getElem?_map, List.getD_eq_getElem?_getD, List.getElem?_eq_getElem hi]; rfl
/-- The cells of a row of texts. -/
theorem names_cell {w : World} {v : Value} {L : List ByteArray} (h : SliceAt w 1 v L.length (L.map Value.string)) (i : Nat) (hi : i < L.length) : ∃ b off c, v = .slice (some ⟨b, off, none⟩) L.length c ∧ b < w.heap.size ∧ w.cell? ⟨b, off + i, none⟩ = some (.string (L.getD i default)) := by
  obtain ⟨_, p, c, rfl, _, _, h4⟩ := h
  obtain ⟨b, off, rfl, hb, hc⟩ := h4 (by omega)
  refine ⟨b, off, c, rfl, hb, hc i _ ?_⟩
  rw [List.getElem?_map, List.getElem?_eq_getElem hi, List.getD_eq_getElem?_getD, List.getElem?_eq_getElem hi]; rfl
theorem names_form {w : World} {v : Value} {L : List ByteArray} (h : SliceAt w 1 v L.length (L.map Value.string)) : ∃ p c, v = .slice p L.length c := by obtain ⟨_, p, c, e, _⟩ := h; exact ⟨p, c, e⟩
theorem rck_100a {ds : List Dt} (h : 60 < ds.length) : rckD ds = 100 := by unfold rckD; rw [if_pos (by rw [decide_eq_true h, Bool.true_or])]
theorem rck_100b {ds : List Dt} {d : Dt} (h : d ∈ ds) (hr : rightD d = false) : rckD ds = 100 := by unfold rckD; rw [if_pos (by rw [Bool.or_eq_true]; exact .inr (List.any_eq_true.2 ⟨d, h, by rw [hr]; rfl⟩))]
theorem rck_on {ds : List Dt} (h : ds.length ≤ 60) (hr : ∀ d ∈ ds, rightD d = true) : rckD ds = if (decide (¬ (ds.map (·.name)).Nodup) || decide (¬ (namesD ds).Nodup)) = true then 101 else if lackR ds = true then 102 else 0 := by
  unfold rckD
  rw [if_neg]
  rw [Bool.or_eq_true, not_or]
  refine ⟨by simp; omega, fun h => ?_⟩
  obtain ⟨d, hd, e⟩ := List.any_eq_true.1 h
  rw [hr d hd] at e
  simp at e
theorem rck_101 {ds : List Dt} (h : ds.length ≤ 60) (hr : ∀ d ∈ ds, rightD d = true) (hd : ¬ (ds.map (·.name)).Nodup ∨ ¬ (namesD ds).Nodup) : rckD ds = 101 := by
  rw [rck_on h hr, if_pos]
  rw [Bool.or_eq_true, decide_eq_true_eq, decide_eq_true_eq]
  exact hd
theorem rck_lack {ds : List Dt} (h : ds.length ≤ 60) (hr : ∀ d ∈ ds, rightD d = true) (h1 : (ds.map (·.name)).Nodup) (h2 : (namesD ds).Nodup) : rckD ds = if lackR ds = true then 102 else 0 := by
  rw [rck_on h hr, if_neg]
  rw [Bool.or_eq_true, decide_eq_true_eq, decide_eq_true_eq]
  rintro (h | h)
  · exact h h1
  · exact h h2
theorem node_cell {w : World} {v : Value} {L : List Nd} (h : NodesAt w v L) (i : Nat) (hi : i < L.length) : ∃ b off c, v = .slice (some ⟨b, off, none⟩) L.length c ∧ b < w.heap.size ∧ w.cell? ⟨b, off + i * 4, none⟩ = some (.int .i64 (L.getD i default).kind) ∧ w.cell? ⟨b, off + i * 4 + 1, none⟩ = some (.string (L.getD i default).text) ∧
    w.cell? ⟨b, off + i * 4 + 2, none⟩ = some (.int .i64 (L.getD i default).num) ∧ w.cell? ⟨b, off + i * 4 + 3, none⟩ = some (.int .i64 (L.getD i default).kids) := by
  obtain ⟨_, p, c, rfl, _, _, h4⟩ := h
  obtain ⟨b, off, rfl, hb, hc⟩ := h4 (by omega)
  exact ⟨b, off, c, rfl, hb, CellsIn.node hc i hi⟩
set_option maxHeartbeats 8000000 in
theorem rcheck_any (lv : Value) (ds : List Dt) (w : World) (h : DtsAt w lv ds) (hf : FewDs ds) : Calls Tryz.prog 27 #[lv] w (CdP w (rckD ds)) := by
  have H := Lib.hid h
  obtain ⟨lq, lc, rfl⟩ := h.form
  obtain ⟨n, hnn⟩ : ∃ n, n = ds.length := ⟨_, rfl⟩
  have HN := Lib.hid hnn
  have FD := Lib.hid hf.2
  have HF := Lib.hid hf
  have E : Hid (∀ y, rckD ds = y → ∀ w', Below w.heap.size w w' → CdP w (rckD ds) (.returned (.int .i64 y)) w') := Lib.hid fun y e w' b => ⟨by rw [e], b⟩
  have n70 : n ≤ 70 := by rw [hnn]; exact hf.1
  rw [← hnn]
  generalize hZ : CdP w (rckD ds) = Z at E ⊢
  clear h hnn hf hZ
  by_cases t60 : 60 < n
  · have t0 : decide ((60 : Int) < (n : Int)) = true := decide_eq_true (by omega)
    have F := Lib.hid (E.out 100 (rck_100a (by rw [← HN.out]; exact t60)) w (Below.refl _ _))
    clear E
    go_enter Tryz.func27, Tryz.ntmps27
    go_wp2
    first | go_ret | skip
    exact F.out
  · have t0 : decide ((60 : Int) < (n : Int)) = false := decide_eq_false (by omega)
    have N60 : Hid (ds.length ≤ 60) := Lib.hid (by rw [← HN.out]; omega)
    clear t60
    go_enter Tryz.func27, Tryz.ntmps27
    go_wp2
    go_loopw [3] (fun s3 wr => ∃ i : Nat, i ≤ n ∧ s3 = .int .i64 i ∧ Hid (Below w.heap.size w wr) ∧ Hid (∀ d ∈ ds.take i, rightD d = true)) (fun s3 _ => n - (intOf s3).toNat)
    case atStart => exact ⟨0, Nat.zero_le _, rfl, Lib.hid (Below.refl _ _), Lib.hid fun d hd => by simp at hd⟩
    case round =>
      obtain ⟨wo, hwo⟩ : ∃ wo : World, wo = wr := ⟨_, rfl⟩
      subst hwo
      obtain ⟨i, hi, rfl, hB, hR⟩ := hrel
      by_cases hlt : i < n
      · have t1 : decide ((i : Int) < (n : Int)) = true := by simpa using hlt
        obtain ⟨b, o, c, e, hb, c0, c1, c2⟩ := (H.out.below hB.out).cell i (by rw [← HN.out]; exact hlt)
        simp only [Value.slice.injEq] at e
        obtain ⟨rfl, -, -⟩ := e
        have DM := Lib.hid (getD_mem ds i (by rw [← HN.out]; exact hlt))
        have NXT : Hid (rightD (ds.getD i default) = true → ∀ d ∈ ds.take (i + 1), rightD d = true) := Lib.hid fun h => all_take_succ _ ds i (by rw [← HN.out]; exact hlt) hR.out h
        obtain ⟨d, hd⟩ : ∃ d, d = ds.getD i default := ⟨_, rfl⟩
        rw [← hd] at c0 c1 c2 DM NXT
        have CALL := Lib.hid (rdef_any d wo ((H.out.below hB.out).2 d DM.out) (FD.out d DM.out))
        obtain ⟨lq2, lc2, ecv⟩ := ((H.out.below hB.out).2 d DM.out).form
        obtain ⟨m, hm⟩ : ∃ m, m = d.cons.length := ⟨_, rfl⟩
        rw [← hm] at ecv
        unfold Dt.val at CALL
        rw [ecv] at c2 CALL
        obtain ⟨dn, hdn⟩ : ∃ dn, dn = d.name := ⟨_, rfl⟩
        obtain ⟨dp, hdp⟩ : ∃ dp, dp = d.params := ⟨_, rfl⟩
        rw [← hdn] at c0 CALL
        rw [← hdp] at c1 CALL
        have BO := Lib.hid hB.out
        clear hd ecv hm hdn hdp hR hB hb
        cases hr : rightD d with
        | false =>
          have F := Lib.hid (E.out 100 (rck_100b DM.out hr))
          rw [hr] at CALL
          clear NXT hr E
          go_wp2_with fail
          refine CALL.out.mono ?_
          rintro e w1 ⟨rfl, b1⟩
          have F := Lib.hid (F.out _ (BO.out.trans (b1.mono BO.out.size)))
          clear b1
          go_wp2
          first | go_ret | skip
          exact F.out
        | true =>
          have G := Lib.hid (NXT.out hr)
          rw [hr] at CALL
          clear NXT hr
          go_wp2_with fail
          refine CALL.out.mono ?_
          rintro e w1 ⟨rfl, b1⟩
          have B1 := Lib.hid (BO.out.trans (b1.mono BO.out.size))
          clear b1 CALL
          go_wp2
          go_roundw
          case rel => exact ⟨i + 1, by omega, by go_num, B1, G⟩
          case measure => simp [intOf]; omega
      · obtain rfl : i = n := by omega
        have t1 : decide ((i : Int) < (i : Int)) = false := by simp
        have RA : Hid (∀ d ∈ ds, rightD d = true) := Lib.hid (all_take_all _ ds i HN.out hR.out)
        have E101 := Lib.hid (fun h => E.out 101 (rck_101 N60.out RA.out h))
        have ELK := Lib.hid (fun h1 h2 => rck_lack N60.out RA.out h1 h2)
        have BO := Lib.hid hB.out
        have NMC := Lib.hid (names_any _ ds wo (H.out.below hB.out) HF.out.1 (fun d hd => (FD.out d hd).2.1))
        rw [← HN.out] at NMC
        clear hR hB RA
        go_wp2_with fail
        refine NMC.out.mono ?_
        rintro e w2 ⟨nv, rfl, hs, b2⟩
        have B2 := Lib.hid (BO.out.trans (b2.mono BO.out.size))
        obtain ⟨nq, nc, rfl⟩ := names_form hs
        have NS := Lib.hid hs
        obtain ⟨z, hz⟩ : ∃ z, z = (namesD ds).length := ⟨_, rfl⟩
        have HZ := Lib.hid hz
        have Z49 : z ≤ 4900 := by
          have := namesD_len ds 70 fun d hd => (FD.out d hd).2.1
          have := HF.out.1
          have : ds.length * 70 ≤ 70 * 70 := Nat.mul_le_mul_right _ HF.out.1
          omega
        rw [← hz] at NS
        rw [← hz]
        clear hs b2 NMC BO hz
        have D2 := Lib.hid (H.out.below B2.out)
        obtain ⟨L1, hL1⟩ : ∃ L1, L1 = ds.map (·.name) := ⟨_, rfl⟩
        have HL1 := Lib.hid hL1
        have LL1 : Hid (L1.length = i) := Lib.hid (by rw [hL1, List.length_map, HN.out])
        have GL1 := Lib.hid (fun k (hk : k < i) => show L1.getD k default = (ds.getD k default).name by rw [hL1]; exact map_getD_name ds k (by rw [← HN.out]; exact hk))
        rw [← hL1] at E101 ELK
        clear hL1
        go_wp2
        go_loopw [5] (fun s5 wr => ∃ a : Nat, a ≤ i ∧ s5 = .int .i64 a ∧ Hid (Below w2.heap.size w2 wr) ∧ Hid ((L1.take a).Nodup)) (fun s5 _ => i - (intOf s5).toNat)
        case atStart => exact ⟨0, Nat.zero_le _, rfl, Lib.hid (Below.refl _ _), Lib.hid (by simp)⟩
        case round =>
          obtain ⟨wp, hwp⟩ : ∃ wp : World, wp = wr := ⟨_, rfl⟩
          subst hwp
          obtain ⟨a, ha, rfl, hB, hA⟩ := hrel
          by_cases hlt : a < i
          · have t2 : decide ((a : Int) < (i : Int)) = true := by simpa using hlt
            obtain ⟨b, o, c, e, hb, c0, _, _⟩ := D2.out.cell a (by rw [← HN.out]; exact hlt)
            simp only [Value.slice.injEq] at e
            obtain ⟨rfl, -, -⟩ := e
            rw [← GL1.out a hlt] at c0
            have NXT := Lib.hid (nodup_take_succ L1 a (by rw [LL1.out]; exact hlt) hA.out)
            have DUP := Lib.hid (fun k (hk : k < a) e W (hW : Below w2.heap.size w2 W) => E101.out (.inl (dup_at L1 k a hk (by rw [LL1.out]; exact hlt) e)) W (B2.out.trans (hW.mono B2.out.size)))
            have STEP := Lib.hid (fun k (hk : k < a) => notmem_take_succ L1 k (L1.getD a default) (by rw [LL1.out]; omega))
            obtain ⟨x, hx⟩ : ∃ x, x = L1.getD a default := ⟨_, rfl⟩
            rw [← hx] at c0 NXT DUP STEP
            have C0 := Lib.hid c0
            have HBB := Lib.hid hb
            clear hx hA hb c0
            go_wp2
            go_loopw [6] (fun s6 wr => ∃ k : Nat, k ≤ a ∧ s6 = .int .i64 k ∧ Hid (Below w2.heap.size w2 wr) ∧ Hid (x ∉ L1.take k)) (fun s6 _ => a - (intOf s6).toNat)
            case atStart => exact ⟨0, Nat.zero_le _, rfl, hB, Lib.hid (by simp)⟩
            case round =>
              clear hB
              obtain ⟨wp, hwp⟩ : ∃ wp : World, wp = wr := ⟨_, rfl⟩
              subst hwp
              obtain ⟨k, hk, rfl, hB, hK⟩ := hrel
              by_cases hlt2 : k < a
              · have t3 : decide ((k : Int) < (a : Int)) = true := by simpa using hlt2
                have hki : k < i := by omega
                have c0 := (hB.out.cell (p := ⟨b, o + a * 3, none⟩) HBB.out).trans C0.out
                obtain ⟨b', o', c', e, hb, d0, _, _⟩ := (D2.out.below hB.out).cell k (by rw [← HN.out]; omega)
                simp only [Value.slice.injEq, Option.some.injEq, Addr.mk.injEq] at e
                obtain ⟨⟨rfl, rfl, -⟩, -, -⟩ := e
                rw [← GL1.out k (by omega)] at d0
                have DK := Lib.hid (DUP.out k hlt2)
                have SK := Lib.hid (STEP.out k hlt2 hK.out)
                obtain ⟨y, hy⟩ : ∃ y, y = L1.getD k default := ⟨_, rfl⟩
                rw [← hy] at d0 DK SK
                clear hy hK hb
                by_cases hxy : y = x
                · subst hxy
                  have F := Lib.hid (fun nq => DK.out rfl _ (below_drewN hB.out nq))
                  clear DK SK
                  go_wp2
                  go_quiet (fail)
                  go_wp2
                  first | go_ret | skip
                  exact F.out _
                · have u1 := str_ne hxy
                  have u2 := str_ne' hxy
                  have G := Lib.hid (SK.out hxy)
                  clear DK SK hxy
                  go_wp2
                  go_quiet (fail)
                  go_wp2
                  go_roundw
                  case rel => exact ⟨k + 1, by omega, by go_num, Lib.hid (below_drewN hB.out _), G⟩
                  case measure => simp [intOf]; omega
              · obtain rfl : k = a := by omega
                have t3 : decide ((k : Int) < (k : Int)) = false := by simp
                have G := Lib.hid (NXT.out hK.out)
                clear NXT DUP STEP hK
                go_wp2
                go_roundw
                case rel => exact ⟨k + 1, by omega, by go_num, hB, G⟩
                case measure => simp [intOf]; omega
          · obtain rfl : a = i := by omega
            have t2 : decide ((a : Int) < (a : Int)) = false := by simp
            have ND1 := Lib.hid (nodup_of_take L1 a LL1.out.symm hA.out)
            clear hA GL1 LL1
            go_wp2
            go_loopw [7] (fun s7 wr => ∃ j : Nat, j ≤ z ∧ s7 = .int .i64 j ∧ Hid (Below w2.heap.size w2 wr) ∧ Hid (((namesD ds).take j).Nodup)) (fun s7 _ => z - (intOf s7).toNat)
            case atStart => exact ⟨0, Nat.zero_le _, rfl, hB, Lib.hid (by simp)⟩
            case round =>
              clear hB
              obtain ⟨wp, hwp⟩ : ∃ wp : World, wp = wr := ⟨_, rfl⟩
              subst hwp
              obtain ⟨j, hj, rfl, hB, hA⟩ := hrel
              by_cases hlt : j < z
              · have t3 : decide ((j : Int) < (z : Int)) = true := by simpa using hlt
                obtain ⟨b, o, c, e, hb, c0⟩ := names_cell (by rw [← HZ.out]; exact NS.out) j (by rw [← HZ.out]; exact hlt)
                simp only [Value.slice.injEq] at e
                obtain ⟨rfl, -, -⟩ := e
                have NXT := Lib.hid (nodup_take_succ (namesD ds) j (by rw [← HZ.out]; exact hlt) hA.out)
                have DUP := Lib.hid (fun k (hk : k < j) e W (hW : Below w2.heap.size w2 W) => E101.out (.inr (dup_at (namesD ds) k j hk (by rw [← HZ.out]; exact hlt) e)) W (B2.out.trans (hW.mono B2.out.size)))
                have STEP := Lib.hid (fun k (hk : k < j) => notmem_take_succ (namesD ds) k ((namesD ds).getD j default) (by rw [← HZ.out]; omega))
                obtain ⟨x, hx⟩ : ∃ x, x = (namesD ds).getD j default := ⟨_, rfl⟩
                rw [← hx] at c0 NXT DUP STEP
                have C0 := Lib.hid c0
                have HBB := Lib.hid hb
                clear hx hA hb c0
                go_wp2
                go_loopw [8] (fun s8 wr => ∃ k : Nat, k ≤ j ∧ s8 = .int .i64 k ∧ Hid (Below w2.heap.size w2 wr) ∧ Hid (x ∉ (namesD ds).take k)) (fun s8 _ => j - (intOf s8).toNat)
                case atStart => exact ⟨0, Nat.zero_le _, rfl, hB, Lib.hid (by simp)⟩
                case round =>
                  clear hB
                  obtain ⟨wp, hwp⟩ : ∃ wp : World, wp = wr := ⟨_, rfl⟩
                  subst hwp
                  obtain ⟨k, hk, rfl, hB, hK⟩ := hrel
                  by_cases hlt2 : k < j
                  · have t4 : decide ((k : Int) < (j : Int)) = true := by simpa using hlt2
                    have hki : k < z := by omega
                    have c0 := (hB.out.cell (p := ⟨b, o + j, none⟩) HBB.out).trans C0.out
                    obtain ⟨b', o', c', e, _, d0⟩ := names_cell (by rw [← HZ.out]; exact NS.out.below hB.out) k (by rw [← HZ.out]; omega)
                    simp only [Value.slice.injEq, Option.some.injEq, Addr.mk.injEq] at e
                    obtain ⟨⟨rfl, rfl, -⟩, -, -⟩ := e
                    have DK := Lib.hid (DUP.out k hlt2)
                    have SK := Lib.hid (STEP.out k hlt2 hK.out)
                    obtain ⟨y, hy⟩ : ∃ y, y = (namesD ds).getD k default := ⟨_, rfl⟩
                    rw [← hy] at d0 DK SK
                    clear hy hK
                    by_cases hxy : y = x
                    · subst hxy
                      have F := Lib.hid (fun nq => DK.out rfl _ (below_drewN hB.out nq))
                      clear DK SK
                      go_wp2
                      go_quiet (fail)
                      go_wp2
                      first | go_ret | skip
                      exact F.out _
                    · have u1 := str_ne hxy
                      have u2 := str_ne' hxy
                      have G := Lib.hid (SK.out hxy)
                      clear DK SK hxy
                      go_wp2
                      go_quiet (fail)
                      go_wp2
                      go_roundw
                      case rel => exact ⟨k + 1, by omega, by go_num, Lib.hid (below_drewN hB.out _), G⟩
                      case measure => simp [intOf]; omega
                  · obtain rfl : k = j := by omega
                    have t4 : decide ((k : Int) < (k : Int)) = false := by simp
                    have G := Lib.hid (NXT.out hK.out)
                    clear NXT DUP STEP hK
                    go_wp2
                    go_roundw
                    case rel => exact ⟨k + 1, by omega, by go_num, hB, G⟩
                    case measure => simp [intOf]; omega
              · obtain rfl : j = z := by omega
                have t3 : decide ((j : Int) < (j : Int)) = false := by simp
                have ND2 := Lib.hid (nodup_of_take (namesD ds) j HZ.out hA.out)
                have RL := Lib.hid (ELK.out ND1.out ND2.out)
                have E0 : Hid (lackR ds = false → ∀ w', Below w.heap.size w w' → Z (.returned (.int .i64 0)) w') := Lib.hid fun e => E.out 0 (by rw [RL.out, e]; rfl)
                have E2 : Hid (lackR ds = true → ∀ w', Below w.heap.size w w' → Z (.returned (.int .i64 102)) w') := Lib.hid fun e => E.out 102 (by rw [RL.out, e]; rfl)
                have BB := Lib.hid (B2.out.trans (hB.out.mono B2.out.size))
                clear hA NS E101 ELK ND1 ND2 RL E HL1 D2 hB
                have NXD : Hid (∀ i', i' < a → (ds.take i').any (fun d => d.cons.any fun c => c.args.any fun t => t.any (lackN ds)) = false → ((ds.getD i' default).cons.any fun c => c.args.any fun t => t.any (lackN ds)) = false → (ds.take (i' + 1)).any (fun d => d.cons.any fun c => c.args.any fun t => t.any (lackN ds)) = false) := Lib.hid fun i' hi' => any_take_false _ ds i' (by rw [← HN.out]; exact hi')
                have FND : Hid (∀ i', i' < a → ((ds.getD i' default).cons.any fun c => c.args.any fun t => t.any (lackN ds)) = true → ∀ w', Below w.heap.size w w' → Z (.returned (.int .i64 102)) w') := Lib.hid fun i' hi' e => E2.out (any_of_get _ ds i' (by rw [← HN.out]; exact hi') e)
                have END : Hid ((ds.take a).any (fun d => d.cons.any fun c => c.args.any fun t => t.any (lackN ds)) = false → ∀ w', Below w.heap.size w w' → Z (.returned (.int .i64 0)) w') := Lib.hid fun e => E0.out (any_of_all _ ds a HN.out e)
                have KNW : Hid (∀ (W : World) (nd : Nd), Below w.heap.size w W → Calls Tryz.prog 66 #[.slice lq a lc, nd.val] W (BRw (knownB ds nd) W)) := Lib.hid fun W nd hW => by have := known_any _ ds nd W (H.out.below hW) (by have := N60.out; omega); rw [← HN.out] at this; exact this
                have LN : Hid (∀ nd, lackN ds nd = (decide (nd.kind = 32) && nameB nd.text && !knownB ds nd)) := Lib.hid fun nd => rfl
                generalize lackN ds = lk at *
                generalize knownB ds = kn at *
                clear E0 E2
                go_wp2
                go_loopw [9] (fun s9 wr => ∃ i : Nat, i ≤ a ∧ s9 = .int .i64 i ∧ Hid (Below w.heap.size w wr) ∧ Hid ((ds.take i).any (fun d => d.cons.any fun c => c.args.any fun t => t.any lk) = false)) (fun s9 _ => a - (intOf s9).toNat)
                case atStart => exact ⟨0, Nat.zero_le _, rfl, BB, Lib.hid rfl⟩
                case round =>
                  clear BB
                  obtain ⟨wp, hwp⟩ : ∃ wp : World, wp = wr := ⟨_, rfl⟩
                  subst hwp
                  obtain ⟨i, hi, rfl, hB, hA⟩ := hrel
                  by_cases hlt : i < a
                  · have t4 : decide ((i : Int) < (a : Int)) = true := by simpa using hlt
                    obtain ⟨b, o, c, e, hb, _, _, cw⟩ := H.out.cell i (by rw [← HN.out]; exact hlt)
                    simp only [Value.slice.injEq] at e
                    obtain ⟨rfl, -, -⟩ := e
                    have DM := getD_mem ds i (by rw [← HN.out]; exact hlt)
                    have CF := Lib.hid (H.out.2 _ DM)
                    have FCD := (FD.out _ DM)
                    have NXI := Lib.hid (NXD.out i hlt hA.out)
                    have FNI := Lib.hid (FND.out i hlt)
                    obtain ⟨d, hd⟩ : ∃ d, d = ds.getD i default := ⟨_, rfl⟩
                    rw [← hd] at cw CF FCD NXI FNI
                    obtain ⟨lq2, lc2, ecv⟩ := CF.out.form
                    obtain ⟨m, hm⟩ : ∃ m, m = d.cons.length := ⟨_, rfl⟩
                    rw [← hm] at ecv
                    rw [ecv] at cw
                    have m70 : m ≤ 70 := by rw [hm]; exact FCD.2.1
                    have HM := Lib.hid hm
                    have ECV := Lib.hid ecv
                    have HBO := Lib.hid hb
                    have CW := Lib.hid cw
                    have FC3 := Lib.hid FCD.2.2
                    have FNC : Hid (∀ j, j < m → ((d.cons.getD j default).args.any fun t => t.any lk) = true → ∀ w', Below w.heap.size w w' → Z (.returned (.int .i64 102)) w') := Lib.hid fun j hj e => FNI.out (any_of_get _ d.cons j (by rw [← HM.out]; exact hj) e)
                    have NXC : Hid (∀ j, j < m → (d.cons.take j).any (fun c => c.args.any fun t => t.any lk) = false → ((d.cons.getD j default).args.any fun t => t.any lk) = false → (d.cons.take (j + 1)).any (fun c => c.args.any fun t => t.any lk) = false) := Lib.hid fun j hj => any_take_false _ d.cons j (by rw [← HM.out]; exact hj)
                    have ENC : Hid ((d.cons.take m).any (fun c => c.args.any fun t => t.any lk) = false → (ds.take (i + 1)).any (fun d => d.cons.any fun c => c.args.any fun t => t.any lk) = false) := Lib.hid fun e => NXI.out (any_of_all _ d.cons m HM.out e)
                    clear hd ecv hm hb cw DM FCD NXI FNI hA
                    go_wp2
                    go_loopw [10] (fun s10 wr => ∃ j : Nat, j ≤ m ∧ s10 = .int .i64 j ∧ Hid (Below w.heap.size w wr) ∧ Hid ((d.cons.take j).any (fun c => c.args.any fun t => t.any lk) = false)) (fun s10 _ => m - (intOf s10).toNat)
                    case atStart => exact ⟨0, Nat.zero_le _, rfl, hB, Lib.hid rfl⟩
                    case round =>
                      clear hB
                      obtain ⟨wp, hwp⟩ : ∃ wp : World, wp = wr := ⟨_, rfl⟩
                      subst hwp
                      obtain ⟨j, hj, rfl, hB, hA⟩ := hrel
                      have c2 := (hB.out.cell (p := ⟨b, o + i * 3 + 2, none⟩) HBO.out).trans CW.out
                      by_cases hlt2 : j < m
                      · have t5 : decide ((j : Int) < (m : Int)) = true := by simpa using hlt2
                        obtain ⟨b2, o2, c2', e2, hb2, _, kw⟩ := CF.out.cell j (by rw [← HM.out]; exact hlt2)
                        rw [ECV.out] at e2
                        simp only [Value.slice.injEq] at e2
                        obtain ⟨rfl, -, -⟩ := e2
                        have CM := getD_mem d.cons j (by rw [← HM.out]; exact hlt2)
                        have LA0 := CF.out.2 _ CM
                        have FCT := FC3.out _ CM
                        have NXJ := Lib.hid (NXC.out j hlt2 hA.out)
                        have FNJ := Lib.hid (FNC.out j hlt2)
                        obtain ⟨ct, hct⟩ : ∃ ct, ct = d.cons.getD j default := ⟨_, rfl⟩
                        rw [← hct] at kw LA0 FCT NXJ FNJ
                        obtain ⟨aq, ac, eav⟩ := LA0.form
                        obtain ⟨q, hq⟩ : ∃ q, q = ct.args.length := ⟨_, rfl⟩
                        rw [← hq] at eav
                        rw [eav] at kw LA0
                        have q10 : q ≤ 10 := by rw [hq]; exact FCT.2.1
                        have HQ := Lib.hid hq
                        have KW := Lib.hid kw
                        have HB2 := Lib.hid hb2
                        have LAH := Lib.hid LA0
                        have FT3 := Lib.hid FCT.2.2
                        have FNA : Hid (∀ x, x < q → (ct.args.getD x []).any lk = true → ∀ w', Below w.heap.size w w' → Z (.returned (.int .i64 102)) w') := Lib.hid fun x hx e => FNJ.out (any_of_get (α := List Nd) _ ct.args x (by rw [← HQ.out]; exact hx) e)
                        have NXA : Hid (∀ x, x < q → (ct.args.take x).any (fun t => t.any lk) = false → (ct.args.getD x []).any lk = false → (ct.args.take (x + 1)).any (fun t => t.any lk) = false) := Lib.hid fun x hx => any_take_false (α := List Nd) _ ct.args x (by rw [← HQ.out]; exact hx)
                        have ENA : Hid ((ct.args.take q).any (fun t => t.any lk) = false → (d.cons.take (j + 1)).any (fun c => c.args.any fun t => t.any lk) = false) := Lib.hid fun e => NXJ.out (any_of_all _ ct.args q HQ.out e)
                        clear hct eav hq hb2 kw CM LA0 FCT NXJ FNJ hA
                        go_wp2
                        go_loopw [11] (fun s11 wr => ∃ x : Nat, x ≤ q ∧ s11 = .int .i64 x ∧ Hid (Below w.heap.size w wr) ∧ Hid ((ct.args.take x).any (fun t => t.any lk) = false)) (fun s11 _ => q - (intOf s11).toNat)
                        case atStart => exact ⟨0, Nat.zero_le _, rfl, hB, Lib.hid rfl⟩
                        case round =>
                          clear hB c2
                          obtain ⟨wp, hwp⟩ : ∃ wp : World, wp = wr := ⟨_, rfl⟩
                          subst hwp
                          obtain ⟨x, hx, rfl, hB, hA⟩ := hrel
                          have c2 := (hB.out.cell (p := ⟨b, o + i * 3 + 2, none⟩) HBO.out).trans CW.out
                          have k2 := (hB.out.cell (p := ⟨b2, o2 + j * 2 + 1, none⟩) HB2.out).trans KW.out
                          by_cases hlt3 : x < q
                          · have t6 : decide ((x : Int) < (q : Int)) = true := by simpa using hlt3
                            obtain ⟨b3, o3, c3, q3, cc3, e3, hb3, z0, na⟩ := lists_cell2 LAH.out x (by rw [← HQ.out]; exact hlt3)
                            simp only [Value.slice.injEq] at e3
                            obtain ⟨rfl, -, -⟩ := e3
                            have zc := (hB.out.cell (p := ⟨b3, o3 + x, none⟩) hb3).trans z0
                            have FL := FT3.out (ct.args.getD x []) (by rw [List.getD_eq_getElem?_getD, List.getElem?_eq_getElem (by rw [← HQ.out]; exact hlt3)]; exact List.getElem_mem _)
                            have NXX := Lib.hid (NXA.out x hlt3 hA.out)
                            have FNX := Lib.hid (FNA.out x hlt3)
                            obtain ⟨L, hL⟩ : ∃ L, L = ct.args.getD x [] := ⟨_, rfl⟩
                            rw [← hL] at zc na FL NXX FNX
                            obtain ⟨z, hz⟩ : ∃ z, z = L.length := ⟨_, rfl⟩
                            rw [← hz] at zc
                            have HZ2 := Lib.hid hz
                            have z60 : z ≤ 60 := by rw [hz]; exact FL.1
                            have NA := Lib.hid na
                            have TX := Lib.hid FL.2
                            clear hL hz na hb3 z0 FL hA
                            go_wp2
                            go_loopw [13] (fun s13 wr => ∃ y : Nat, y ≤ z ∧ s13 = .int .i64 y ∧ Hid (Below w.heap.size w wr) ∧ Hid ((L.take y).any lk = false)) (fun s13 _ => z - (intOf s13).toNat)
                            case atStart => exact ⟨0, Nat.zero_le _, rfl, hB, Lib.hid rfl⟩
                            case round =>
                              clear hB c2 k2 zc
                              obtain ⟨wp, hwp⟩ : ∃ wp : World, wp = wr := ⟨_, rfl⟩
                              subst hwp
                              obtain ⟨y, hy, rfl, hB, hA⟩ := hrel
                              by_cases hlt4 : y < z
                              · have t7 : decide ((y : Int) < (z : Int)) = true := by simpa using hlt4
                                obtain ⟨b4, o4, c4, e4, hb4, n0, n1, n2, n3⟩ := node_cell NA.out y (by rw [← HZ2.out]; exact hlt4)
                                simp only [Value.slice.injEq] at e4
                                obtain ⟨rfl, -, -⟩ := e4
                                have NXY := Lib.hid (any_take_false lk L y (by rw [← HZ2.out]; exact hlt4) hA.out)
                                have FNY := Lib.hid (fun e => FNX.out (any_of_get lk L y (by rw [← HZ2.out]; exact hlt4) e))
                                have TS := TX.out _ (getD_mem L y (by rw [← HZ2.out]; exact hlt4))
                                have LNY := Lib.hid (LN.out (L.getD y default))
                                have KN := Lib.hid (fun W hW => KNW.out W (L.getD y default) hW)
                                obtain ⟨nd, hnd⟩ : ∃ nd, nd = L.getD y default := ⟨_, rfl⟩
                                rw [← hnd] at n0 n1 n2 n3 NXY FNY TS LNY KN
                                have NMY := Lib.hid (fun W => named_any nd.text W (by omega))
                                generalize kn nd = kb at *
                                obtain ⟨k, s, nm, kd⟩ := nd
                                unfold Nd.val at KN
                                simp only at n0 n1 n2 n3 TS LNY KN NMY
                                have m0 := (hB.out.cell (p := ⟨b4, o4 + y * 4, none⟩) hb4).trans n0
                                have m1 := (hB.out.cell (p := ⟨b4, o4 + y * 4 + 1, none⟩) hb4).trans n1
                                have M0 := Lib.hid n0
                                have M1 := Lib.hid n1
                                have M2 := Lib.hid n2
                                have M3 := Lib.hid n3
                                have HB4 := Lib.hid hb4
                                have BO := Lib.hid hB.out
                                clear hnd hA n0 n1 n2 n3 hb4 hB
                                by_cases hk : k = 32
                                · subst hk
                                  rw [decide_eq_true rfl, Bool.true_and] at LNY
                                  cases hnm : nameB s with
                                  | false =>
                                    rw [hnm] at NMY LNY
                                    have G := Lib.hid (NXY.out LNY.out)
                                    clear NXY FNY LNY KN hnm
                                    go_wp2_with fail
                                    refine (NMY.out _).mono ?_
                                    rintro e w5 ⟨rfl, b5⟩
                                    have B5 := Lib.hid (BO.out.trans (b5.mono BO.out.size))
                                    clear b5
                                    go_wp2
                                    go_roundw
                                    case rel => exact ⟨y + 1, by omega, by go_num, B5, G⟩
                                    case measure => simp [intOf]; omega
                                  | true =>
                                    rw [hnm, Bool.true_and] at LNY
                                    rw [hnm] at NMY
                                    clear hnm
                                    cases hkb : kb with
                                    | true =>
                                      rw [hkb] at LNY KN
                                      have G := Lib.hid (NXY.out LNY.out)
                                      clear NXY FNY LNY hkb
                                      go_wp2_with fail
                                      refine (NMY.out _).mono ?_
                                      rintro e w5 ⟨rfl, b5⟩
                                      have B5 := Lib.hid (BO.out.trans (b5.mono BO.out.size))
                                      have m0 := (B5.out.cell (p := ⟨b4, o4 + y * 4, none⟩) HB4.out).trans M0.out
                                      have m1 := (B5.out.cell (p := ⟨b4, o4 + y * 4 + 1, none⟩) HB4.out).trans M1.out
                                      have m2 := (B5.out.cell (p := ⟨b4, o4 + y * 4 + 2, none⟩) HB4.out).trans M2.out
                                      have m3 := (B5.out.cell (p := ⟨b4, o4 + y * 4 + 3, none⟩) HB4.out).trans M3.out
                                      clear b5
                                      go_wp2_with fail
                                      refine (KN.out _ B5.out).mono ?_
                                      rintro e w6 ⟨rfl, b6⟩
                                      have B6 := Lib.hid (B5.out.trans (b6.mono B5.out.size))
                                      clear b6
                                      go_wp2
                                      go_roundw
                                      case rel => exact ⟨y + 1, by omega, by go_num, B6, G⟩
                                      case measure => simp [intOf]; omega
                                    | false =>
                                      rw [hkb] at LNY KN
                                      have F := Lib.hid (FNY.out LNY.out)
                                      clear NXY FNY LNY hkb
                                      go_wp2_with fail
                                      refine (NMY.out _).mono ?_
                                      rintro e w5 ⟨rfl, b5⟩
                                      have B5 := Lib.hid (BO.out.trans (b5.mono BO.out.size))
                                      have m0 := (B5.out.cell (p := ⟨b4, o4 + y * 4, none⟩) HB4.out).trans M0.out
                                      have m1 := (B5.out.cell (p := ⟨b4, o4 + y * 4 + 1, none⟩) HB4.out).trans M1.out
                                      have m2 := (B5.out.cell (p := ⟨b4, o4 + y * 4 + 2, none⟩) HB4.out).trans M2.out
                                      have m3 := (B5.out.cell (p := ⟨b4, o4 + y * 4 + 3, none⟩) HB4.out).trans M3.out
                                      clear b5
                                      go_wp2_with fail
                                      refine (KN.out _ B5.out).mono ?_
                                      rintro e w6 ⟨rfl, b6⟩
                                      have F := Lib.hid (F.out _ (B5.out.trans (b6.mono B5.out.size)))
                                      clear b6
                                      go_wp2
                                      first | go_ret | skip
                                      exact F.out
                                · have u1 : (k == 32) = false := by simpa using hk
                                  have u2 : decide (k = 32) = false := decide_eq_false hk
                                  have G := Lib.hid (NXY.out (by rw [LNY.out, u2]; rfl))
                                  clear NXY FNY LNY KN NMY u2
                                  go_wp2
                                  go_roundw
                                  case rel => exact ⟨y + 1, by omega, by go_num, BO, G⟩
                                  case measure => simp [intOf]; omega
                              · obtain rfl : y = z := by omega
                                have t7 : decide ((y : Int) < (y : Int)) = false := by simp
                                have G := Lib.hid (NXX.out (any_of_all _ L y HZ2.out hA.out))
                                clear hA NXX FNX NA TX
                                go_wp2
                                go_roundw
                                case rel => exact ⟨x + 1, by omega, by go_num, hB, G⟩
                                case measure => simp [intOf]; omega
                          · obtain rfl : x = q := by omega
                            have t6 : decide ((x : Int) < (x : Int)) = false := by simp
                            have G := Lib.hid (ENA.out hA.out)
                            clear hA ENA NXA FNA LAH FT3
                            go_wp2
                            go_roundw
                            case rel => exact ⟨j + 1, by omega, by go_num, hB, G⟩
                            case measure => simp [intOf]; omega
                      · obtain rfl : j = m := by omega
                        have t5 : decide ((j : Int) < (j : Int)) = false := by simp
                        have G := Lib.hid (ENC.out hA.out)
                        clear hA ENC NXC FNC CF FC3
                        go_wp2
                        go_roundw
                        case rel => exact ⟨i + 1, by omega, by go_num, hB, G⟩
                        case measure => simp [intOf]; omega
                  · obtain rfl : i = a := by omega
                    have t4 : decide ((i : Int) < (i : Int)) = false := by simp
                    have F := Lib.hid (END.out hA.out _ hB.out)
                    clear hA hB
                    go_wp2
                    first | go_ret | skip
                    exact F.out
end Go.Proofs.YtncifeeinogcnaaGreatDoor
