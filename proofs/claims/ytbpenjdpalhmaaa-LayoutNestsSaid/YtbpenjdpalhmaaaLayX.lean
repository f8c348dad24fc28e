/- The document's Right; the law's long. -/
import Derived.Test.YtbpenjdpalhmaaaLayC
import Derived.Test.YtbpenjdpalhmaaaRef
namespace Go.Proofs.Ytbpenjdpalhmaaa
open Go.Shelf Go.RowKit Go.Lib Go.Sort Go.Proofs.TreeMath
theorem docB_not {ns : List Nd} {n : Nd} (h : n ∈ ns) (hn : okN n = false) : docB ns = false :=
  docB_right ns (List.any_eq_true.2 ⟨n, h, by rw [hn]; rfl⟩)
theorem okN_form (k : Int) (s : ByteArray) (m d : Int) (h1 : 41 ≤ k) (h2 : k ≤ 45) (h3 : k ≠ 43 → m = 0) (h4 : 0 ≤ m) (h5 : m ≤ 40) (h6 : k ≠ 41 → s = ByteArray.empty) (h7 : k ≤ 42 → d = 0) (h8 : k = 43 ∨ k = 44 → d = 1) : okN ⟨k, s, m, d⟩ = plainB s := by
  have pe : plainB ByteArray.empty = true := rfl
  by_cases a : k = 41
  · subst a
    rw [ok41, h3 (by decide), h7 (by decide)]; simp
  · obtain rfl := h6 a
    rw [pe]
    have : k = 42 ∨ k = 43 ∨ k = 44 ∨ k = 45 := by omega
    rcases this with rfl | rfl | rfl | rfl
    · rw [ok42, h3 (by decide), h7 (by decide)]; simp
    · rw [ok43, h8 (.inl rfl)]; simp [h4, h5]
    · rw [ok44, h3 (by decide), h8 (.inr rfl)]; simp
    · rw [ok45, h3 (by decide)]; simp
theorem plain_get (s : ByteArray) (i : Nat) (h : i < s.size) (hp : plainC s[i] = false) : plainB s = false := by
  rw [← Bool.not_eq_true]
  intro ha
  have := List.all_eq_true.1 ha s[i] (by
    show s.data[i] ∈ s.data.toList
    simp)
  have e : plainC s[i] = true := this
  rw [hp] at e
  cases e
theorem plain_of (s : ByteArray) (h : ∀ i, (hi : i < s.size) → plainC s[i] = true) : plainB s = true := by
  refine List.all_eq_true.2 fun x hx => ?_
  obtain ⟨i, hi, rfl⟩ := List.getElem_of_mem hx
  have hi' : i < s.size := by simpa using hi
  have := h i hi'
  exact this
set_option maxRecDepth 100000 in
set_option maxHeartbeats 4000000 in
theorem ref_right_in (b off n c : Nat) (ns : List Nd) (w : World) (hl : Hid (ns.length = n)) (hn : n ≤ 4000) (hb : b < w.heap.size) (hc : Hid (CellsIn w b off (nodeCells ns))) (ht : Hid (∀ x ∈ ns, x.text.size ≤ 1000000)) (hw : Hid (wholeB (kk ns) = true)) (W1 : Hid (Calls Try.prog 26 #[.slice (some ⟨b, off, none⟩) n c] w fun e w' => e = .returned (.bool true) ∧ w = w')) :
    Calls Try.prog 13 #[.slice (some ⟨b, off, none⟩) n c] w (RB (docB ns) w) := by
  obtain ⟨D, hD⟩ : ∃ D, D = docB ns := ⟨_, rfl⟩
  rw [← hD]
  have HD := Lib.hid hD
  clear hD
  have g : decide ((4000 : Int) < (n : Int)) = false := by simp; omega
  go_enter Try.func13, Try.ntmps13
  go_wp2_with fail
  refine W1.out.mono ?_
  rintro e w1 ⟨rfl, rfl⟩
  go_wp2_with fail
  go_loopw [3] (fun t3 wr => ∃ i : Nat, i ≤ n ∧ t3 = .int .i64 (i : Int) ∧ Below w.heap.size w wr ∧ ∀ j, j < i → okN (ns.getD j default) = true) (fun t3 _ => n - (intOf t3).toNat)
  case atStart => exact ⟨0, Nat.zero_le _, rfl, Below.refl _ _, fun j hj => by omega⟩
  case round =>
    obtain ⟨wo, hwo⟩ : ∃ wo : World, wo = wr := ⟨_, rfl⟩
    subst hwo
    obtain ⟨i, hi, rfl, hbel, hpre⟩ := hrel
    have HP := Lib.hid hpre
    clear hpre
    by_cases hlt : i < n
    · have hin : i < ns.length := by rw [hl.out]; exact hlt
      obtain ⟨c0, c1, c2, c3⟩ := (hc.out.kept (hbel.block b hb)).node i hin
      have hmem : ns.getD i default ∈ ns := by
        rw [List.getD_eq_getElem?_getD, List.getElem?_eq_getElem hin]
        exact List.getElem_mem hin
      have hs := ht.out _ hmem
      have NOT := Lib.hid (fun h : okN (ns.getD i default) = false => (HD.out.trans (docB_not hmem h)))
      obtain ⟨nd, hnd⟩ : ∃ nd, nd = ns.getD i default := ⟨_, rfl⟩
      rw [← hnd] at c0 c1 c2 c3 hs NOT
      have HND := Lib.hid hnd
      clear hnd hmem hin
      obtain ⟨k, s, m, d⟩ := nd
      simp only at c0 c1 c2 c3 hs
      have hbo : b < wo.heap.size := Nat.lt_of_lt_of_le hb hbel.size
      have hbn : Below w.heap.size w (wo.alloc (.cells #[.int .i64 k, .string s, .int .i64 m, .int .i64 d] 38)) := hbel.alloc hbel.size _
      have HBN := Lib.hid hbn
      have HBEL := Lib.hid hbel
      clear hbn hbel
      by_cases a1 : k < 41
      · have no : Hid (okN ⟨k, s, m, d⟩ = false) := Lib.hid (ok_other k s m d (by omega) (by omega) (by omega) (by omega) (by omega))
        go_wp2
        go_ret
        exact ⟨by rw [NOT.out no.out]; rfl, HBN.out⟩
      by_cases a2 : 45 < k
      · have no : Hid (okN ⟨k, s, m, d⟩ = false) := Lib.hid (ok_other k s m d (by omega) (by omega) (by omega) (by omega) (by omega))
        go_wp2
        go_ret
        exact ⟨by rw [NOT.out no.out]; rfl, HBN.out⟩
      have ak : k = 41 ∨ k = 42 ∨ k = 43 ∨ k = 44 ∨ k = 45 := by omega
      clear a1 a2
      rcases ak with rfl | rfl | rfl | rfl | rfl
      · by_cases nm : ¬ m = 0
        · have hm := nm
          have no : Hid (okN ⟨41, s, m, d⟩ = false) := Lib.hid (by rw [ok41]; simp [hm])
          have e1 : (m != 0) = true := by simpa using hm
          go_wp2
          go_ret
          exact ⟨by rw [NOT.out no.out]; rfl, HBN.out⟩
        have hm := Decidable.not_not.1 nm
        clear nm
        by_cases nd : ¬ d = 0
        · have hd := nd
          have no : Hid (okN ⟨41, s, m, d⟩ = false) := Lib.hid (by rw [ok41]; simp [hd])
          have e3 : (d != 0) = true := by simpa using hd
          subst hm
          go_wp2
          go_ret
          exact ⟨by rw [NOT.out no.out]; rfl, HBN.out⟩
        have hd := Decidable.not_not.1 nd
        clear nd
        have PL : Hid (okN ⟨41, s, m, d⟩ = plainB s) := Lib.hid (okN_form 41 s m d (by decide) (by decide) (by intro h; first | exact hm | (exact absurd rfl h)) (by omega) (by omega) (by intro h; first | exact hs0 | (exact absurd rfl h)) (by intro h; first | exact hd | (exact absurd h (by decide))) (by intro h; first | exact hd | (exact absurd h (by decide))))
        subst hm
        subst hd
        have e0 := Lib.cell_of_heap (node_cells wo 41 s 0 0) 1
        simp only [List.getElem?_toArray, List.getElem?_cons_succ, List.getElem?_cons_zero] at e0
        go_wp2_with fail
        obtain ⟨w5, hw5⟩ : ∃ w5, w5 = wo.alloc (.cells #[.int .i64 41, .string s, .int .i64 0, .int .i64 0] 38) := ⟨_, rfl⟩
        rw [← hw5] at e0 HBN ⊢
        clear hw5
        go_loopw [5] (fun t5 wx => ∃ q : Nat, q ≤ s.size ∧ t5 = .int .i64 (q : Int) ∧ wx = w5 ∧ ∀ a, (ha : a < s.size) → a < q → plainC s[a] = true) (fun t5 _ => s.size - (intOf t5).toNat)
        case atStart => exact ⟨0, Nat.zero_le _, rfl, rfl, fun a _ h => by omega⟩
        case round =>
          obtain ⟨q, hq, rfl, rfl, hpl⟩ := hrel
          have HPL := Lib.hid hpl
          clear hpl
          by_cases hqs : q < s.size
          · have x0 : (0 : Int) ≤ (s[q].toNat : Int) := by omega
            by_cases hx1 : (s[q].toNat : Int) < 32
            · have no : Hid (okN ⟨41, s, 0, 0⟩ = false) := Lib.hid (by rw [PL.out]; exact plain_get s q hqs (by unfold plainC; simp; omega))
              go_wp2
              go_ret
              exact ⟨by rw [NOT.out no.out]; rfl, HBN.out⟩
            · by_cases hx2 : 126 < (s[q].toNat : Int)
              · have no : Hid (okN ⟨41, s, 0, 0⟩ = false) := Lib.hid (by rw [PL.out]; exact plain_get s q hqs (by unfold plainC; simp; omega))
                go_wp2
                go_ret
                exact ⟨by rw [NOT.out no.out]; rfl, HBN.out⟩
              · go_wp2
                go_roundw
                case rel =>
                  refine ⟨q + 1, by omega, by go_num, by first | trivial | rfl, fun a ha h => ?_⟩
                  rcases Nat.lt_or_ge a q with h' | h'
                  · exact HPL.out a ha h'
                  · obtain rfl : a = q := by omega
                    unfold plainC
                    simp
                    omega
                case measure => simp [intOf]; omega
          · have PT : Hid (plainB s = true) := Lib.hid (plain_of s fun a ha => HPL.out a ha (by omega))
            go_wp2
            go_roundw
            case rel =>
              refine ⟨i + 1, by omega, by go_num, HBN.out, fun j hj => ?_⟩
              rcases Nat.lt_or_ge j i with h | h
              · exact HP.out j h
              · rw [show j = i by omega, ← HND.out, PL.out]
                exact PT.out
            case measure => simp [intOf]; omega
      · by_cases nm : ¬ m = 0
        · have hm := nm
          have no : Hid (okN ⟨42, s, m, d⟩ = false) := Lib.hid (by rw [ok42]; simp [hm])
          have e1 : (m != 0) = true := by simpa using hm
          go_wp2
          go_ret
          exact ⟨by rw [NOT.out no.out]; rfl, HBN.out⟩
        have hm := Decidable.not_not.1 nm
        clear nm
        by_cases ns0 : ¬ s = ByteArray.empty
        · have hs0 := ns0
          have no : Hid (okN ⟨42, s, m, d⟩ = false) := Lib.hid (by rw [ok42]; simp [hs0])
          have e2 := toList_ne hs0
          have e2b : s.toList.isEmpty = false := by simpa using e2
          have e1 : (m != 0) = false := by simp [hm]
          subst hm
          go_wp2
          go_ret
          exact ⟨by rw [NOT.out no.out]; rfl, HBN.out⟩
        have hs0 := Decidable.not_not.1 ns0
        clear ns0
        by_cases nd : ¬ d = 0
        · have hd := nd
          have no : Hid (okN ⟨42, s, m, d⟩ = false) := Lib.hid (by rw [ok42]; simp [hd])
          have e3 : (d != 0) = true := by simpa using hd
          subst hm
          subst hs0
          go_wp2
          go_ret
          exact ⟨by rw [NOT.out no.out]; rfl, HBN.out⟩
        have hd := Decidable.not_not.1 nd
        clear nd
        have PL : Hid (okN ⟨42, s, m, d⟩ = plainB s) := Lib.hid (okN_form 42 s m d (by decide) (by decide) (by intro h; first | exact hm | (exact absurd rfl h)) (by omega) (by omega) (by intro h; first | exact hs0 | (exact absurd rfl h)) (by intro h; first | exact hd | (exact absurd h (by decide))) (by intro h; first | exact hd | (exact absurd h (by decide))))
        subst hm
        subst hs0
        subst hd
        have e0 := Lib.cell_of_heap (node_cells wo 42 ByteArray.empty 0 0) 1
        simp only [List.getElem?_toArray, List.getElem?_cons_succ, List.getElem?_cons_zero] at e0
        go_wp2_with fail
        refine wp_loop_rounds 1 ?_
        rw [rounds_succ]
        go_wp2
        go_roundw
        case rel =>
          refine ⟨i + 1, by omega, by go_num, HBN.out, fun j hj => ?_⟩
          rcases Nat.lt_or_ge j i with h | h
          · exact HP.out j h
          · rw [show j = i by omega, ← HND.out, PL.out]
            rfl
        case measure => simp [intOf]; omega
      · by_cases m1 : m < 0
        · have no : Hid (okN ⟨43, s, m, d⟩ = false) := Lib.hid (by rw [ok43]; simp; omega)
          go_wp2
          go_ret
          exact ⟨by rw [NOT.out no.out]; rfl, HBN.out⟩
        by_cases m2 : 40 < m
        · have no : Hid (okN ⟨43, s, m, d⟩ = false) := Lib.hid (by rw [ok43]; simp; omega)
          go_wp2
          go_ret
          exact ⟨by rw [NOT.out no.out]; rfl, HBN.out⟩
        by_cases ns0 : ¬ s = ByteArray.empty
        · have hs0 := ns0
          have no : Hid (okN ⟨43, s, m, d⟩ = false) := Lib.hid (by rw [ok43]; simp [hs0])
          have e2 := toList_ne hs0
          have e2b : s.toList.isEmpty = false := by simpa using e2
          go_wp2
          go_ret
          exact ⟨by rw [NOT.out no.out]; rfl, HBN.out⟩
        have hs0 := Decidable.not_not.1 ns0
        clear ns0
        by_cases nd : ¬ d = 1
        · have hd := nd
          have no : Hid (okN ⟨43, s, m, d⟩ = false) := Lib.hid (by rw [ok43]; simp [hd])
          have e3 : (d != 1) = true := by simpa using hd
          subst hs0
          go_wp2
          go_ret
          exact ⟨by rw [NOT.out no.out]; rfl, HBN.out⟩
        have hd := Decidable.not_not.1 nd
        clear nd
        have PL : Hid (okN ⟨43, s, m, d⟩ = plainB s) := Lib.hid (okN_form 43 s m d (by decide) (by decide) (by intro h; first | exact hm | (exact absurd rfl h)) (by omega) (by omega) (by intro h; first | exact hs0 | (exact absurd rfl h)) (by intro h; first | exact hd | (exact absurd h (by decide))) (by intro h; first | exact hd | (exact absurd h (by decide))))
        subst hs0
        subst hd
        have e0 := Lib.cell_of_heap (node_cells wo 43 ByteArray.empty m 1) 1
        simp only [List.getElem?_toArray, List.getElem?_cons_succ, List.getElem?_cons_zero] at e0
        go_wp2_with fail
        refine wp_loop_rounds 1 ?_
        rw [rounds_succ]
        go_wp2
        go_roundw
        case rel =>
          refine ⟨i + 1, by omega, by go_num, HBN.out, fun j hj => ?_⟩
          rcases Nat.lt_or_ge j i with h | h
          · exact HP.out j h
          · rw [show j = i by omega, ← HND.out, PL.out]
            rfl
        case measure => simp [intOf]; omega
      · by_cases nm : ¬ m = 0
        · have hm := nm
          have no : Hid (okN ⟨44, s, m, d⟩ = false) := Lib.hid (by rw [ok44]; simp [hm])
          have e1 : (m != 0) = true := by simpa using hm
          go_wp2
          go_ret
          exact ⟨by rw [NOT.out no.out]; rfl, HBN.out⟩
        have hm := Decidable.not_not.1 nm
        clear nm
        by_cases ns0 : ¬ s = ByteArray.empty
        · have hs0 := ns0
          have no : Hid (okN ⟨44, s, m, d⟩ = false) := Lib.hid (by rw [ok44]; simp [hs0])
          have e2 := toList_ne hs0
          have e2b : s.toList.isEmpty = false := by simpa using e2
          have e1 : (m != 0) = false := by simp [hm]
          subst hm
          go_wp2
          go_ret
          exact ⟨by rw [NOT.out no.out]; rfl, HBN.out⟩
        have hs0 := Decidable.not_not.1 ns0
        clear ns0
        by_cases nd : ¬ d = 1
        · have hd := nd
          have no : Hid (okN ⟨44, s, m, d⟩ = false) := Lib.hid (by rw [ok44]; simp [hd])
          have e3 : (d != 1) = true := by simpa using hd
          subst hm
          subst hs0
          go_wp2
          go_ret
          exact ⟨by rw [NOT.out no.out]; rfl, HBN.out⟩
        have hd := Decidable.not_not.1 nd
        clear nd
        have PL : Hid (okN ⟨44, s, m, d⟩ = plainB s) := Lib.hid (okN_form 44 s m d (by decide) (by decide) (by intro h; first | exact hm | (exact absurd rfl h)) (by omega) (by omega) (by intro h; first | exact hs0 | (exact absurd rfl h)) (by intro h; first | exact hd | (exact absurd h (by decide))) (by intro h; first | exact hd | (exact absurd h (by decide))))
        subst hm
        subst hs0
        subst hd
        have e0 := Lib.cell_of_heap (node_cells wo 44 ByteArray.empty 0 1) 1
        simp only [List.getElem?_toArray, List.getElem?_cons_succ, List.getElem?_cons_zero] at e0
        go_wp2_with fail
        refine wp_loop_rounds 1 ?_
        rw [rounds_succ]
        go_wp2
        go_roundw
        case rel =>
          refine ⟨i + 1, by omega, by go_num, HBN.out, fun j hj => ?_⟩
          rcases Nat.lt_or_ge j i with h | h
          · exact HP.out j h
          · rw [show j = i by omega, ← HND.out, PL.out]
            rfl
        case measure => simp [intOf]; omega
      · by_cases nm : ¬ m = 0
        · have hm := nm
          have no : Hid (okN ⟨45, s, m, d⟩ = false) := Lib.hid (by rw [ok45]; simp [hm])
          have e1 : (m != 0) = true := by simpa using hm
          go_wp2
          go_ret
          exact ⟨by rw [NOT.out no.out]; rfl, HBN.out⟩
        have hm := Decidable.not_not.1 nm
        clear nm
        by_cases ns0 : ¬ s = ByteArray.empty
        · have hs0 := ns0
          have no : Hid (okN ⟨45, s, m, d⟩ = false) := Lib.hid (by rw [ok45]; simp [hs0])
          have e2 := toList_ne hs0
          have e2b : s.toList.isEmpty = false := by simpa using e2
          have e1 : (m != 0) = false := by simp [hm]
          subst hm
          go_wp2
          go_ret
          exact ⟨by rw [NOT.out no.out]; rfl, HBN.out⟩
        have hs0 := Decidable.not_not.1 ns0
        clear ns0
        have PL : Hid (okN ⟨45, s, m, d⟩ = plainB s) := Lib.hid (okN_form 45 s m d (by decide) (by decide) (by intro h; first | exact hm | (exact absurd rfl h)) (by omega) (by omega) (by intro h; first | exact hs0 | (exact absurd rfl h)) (by intro h; first | exact hd | (exact absurd h (by decide))) (by intro h; first | exact hd | (exact absurd h (by decide))))
        subst hm
        subst hs0
        have e0 := Lib.cell_of_heap (node_cells wo 45 ByteArray.empty 0 d) 1
        simp only [List.getElem?_toArray, List.getElem?_cons_succ, List.getElem?_cons_zero] at e0
        go_wp2_with fail
        refine wp_loop_rounds 1 ?_
        rw [rounds_succ]
        go_wp2
        go_roundw
        case rel =>
          refine ⟨i + 1, by omega, by go_num, HBN.out, fun j hj => ?_⟩
          rcases Nat.lt_or_ge j i with h | h
          · exact HP.out j h
          · rw [show j = i by omega, ← HND.out, PL.out]
            rfl
        case measure => simp [intOf]; omega
    · obtain rfl : i = n := by omega
      have hall : docB ns = true := docB_yes ns (by rw [hl.out]; omega) hw.out (by
        rw [← Bool.not_eq_true]
        intro ha
        obtain ⟨x, hx, hn⟩ := List.any_eq_true.1 ha
        obtain ⟨j, hj, rfl⟩ := List.getElem_of_mem hx
        have := HP.out j (by rw [← hl.out]; exact hj)
        rw [List.getD_eq_getElem?_getD, List.getElem?_eq_getElem hj, Option.getD_some] at this
        rw [this] at hn
        cases hn)
      have HA := Lib.hid hall
      clear hall
      go_wp2
      go_ret
      exact ⟨by rw [HD.out, HA.out]; rfl, hbel⟩
end Go.Proofs.Ytbpenjdpalhmaaa
