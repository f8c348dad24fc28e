/- Texts of this seat, one behind the other: TxG, LaD. -/
import Derived.Test.YtncifeeinogcnaaGreatDoorKn28
import Derived.BigQuiet
import Derived.Lib.QuietBelow
import Derived.Test.YtncifeeinogcnaaGreatDoorKn26
/- The document's own Show. -/
set_option maxRecDepth 100000
namespace Go.Proofs.YtncifeeinogcnaaGreatDoor
open Go.Shelf Go.RowKit Go.Lib Go.Sort Go.Proofs.TreeMath

def GoodR (ns : List Nd) (n : Nd) (k : F) : Prop := ∀ (tv : Value) (W : World), NodesAt W tv ns → ∀ (pre post : List Nd), ns = pre ++ (n :: (k.flat ++ post)) → Calls Tryz.prog 17 #[tv, .int .i64 (pre.length : Int)] W (RSt (shN n (shF k)) W)
def AllGoodR (ns : List Nd) : F → Prop
  | .nil => True
  | .cons n k r => GoodR ns n k ∧ AllGoodR ns r
/-- How things stand between two kids. -/
structure RL (ns post : List Nd) (k : F) (I : Nat) (full : List UInt8) (K : Nat) (j pos : Nat) (g : F) (S : ByteArray) : Prop where
  at_ : ∃ pre' : List Nd, pos = pre'.length ∧ ns = pre' ++ (g.flat ++ post)
  cnt : j + g.cnt = K
  drop : (startsF k (I + 1)).drop j = startsF g pos
  good : AllGoodR ns g
  ok : okT g
  txt : S.data.toList ++ (shF g).flatMap (fun a => 32 :: brk (decide (0 < a.1.kids)) a.2) = full
  len : S.size + 100000020 * g.sz + 10 ≤ 140737488355328
theorem startsF_head {k : F} {I j pos : Nat} {a : Nd} {ka r : F} (h : (startsF k (I + 1)).drop j = startsF (.cons a ka r) pos) : (ofNats (startsF k (I + 1))).getD j 0 = (pos : Int) ∧ (startsF k (I + 1)).drop (j + 1) = startsF r (pos + 1 + ka.sz) := by
  simp only [startsF] at h
  have h1 : (startsF k (I + 1))[j]? = some pos := by
    have := congrArg (fun l => l[0]?) h
    simpa using this
  refine ⟨?_, ?_⟩
  · rw [List.getD_eq_getElem?_getD]
    simp [ofNats, h1]
  · rw [Nat.add_comm j 1, ← List.drop_drop, List.drop_drop, Nat.add_comm 1 j, ← List.drop_drop, h]
    rfl
theorem bsize (l : List UInt8) : (⟨l.toArray⟩ : ByteArray).size = l.length := by show l.toArray.size = _; simp
set_option maxHeartbeats 1600000 in
theorem rshow_one (n : Nd) (k : F) (ns : List Nd) (hn4 : ns.length ≤ 4000) (hg : AllGoodR ns k) (ht : okT (.cons n k .nil)) (hok : (F.cons n k .nil).ok) : GoodR ns n k := by
  intro tv W hns pre post he
  have hlen : pre.length < ns.length := by rw [he]; simp
  have hnode : ns.getD pre.length default = n := by rw [he]; simp [List.getD_eq_getElem?_getD]
  have hnx : pre.length + 1 + k.sz ≤ 4000 := by
    have : ns.length = pre.length + (1 + (k.flat.length + post.length)) := by rw [he]; simp; omega
    rw [F.flat_length] at this; omega
  have KIDS := Lib.hid (fun w' (b : Below W.heap.size W w') => ref_kids tv ns pre.length w' (hns.below b) (by omega))
  have hkf : kidsI (kk ns) pre.length = startsF k (pre.length + 1) := by rw [he]; exact kids_flat n k hok.1 hok.2.1 pre post
  rw [hkf] at KIDS
  have NS := Lib.hid (fun w' (b : Below W.heap.size W w') => hns.below b)
  obtain ⟨_, q, c, rfl, _, _, g4⟩ := id hns
  obtain ⟨bb, off, rfl, hb, hc⟩ := g4 (by omega)
  obtain ⟨c0, c1, c2, c3⟩ := CellsIn.node hc pre.length hlen
  rw [hnode] at c0 c1 c2 c3
  obtain ⟨t1, t2, t3, t4, t5, t6, _⟩ := id ht
  have HT := Lib.hid ht
  have H4 := Lib.hid hn4
  have HE := Lib.hid he
  have HG := Lib.hid hg
  have HC := Lib.hid (And.intro hb hc)
  have T6 := Lib.hid t6
  have LEN0 := Lib.hid (shN_one n k ht)
  obtain ⟨nk, nt, nn, nc⟩ := n
  simp only at c0 c1 c2 c3 t1 t2 t3 t4 t5
  have BA : Hid (Below W.heap.size W (W.alloc (.cells #[.int .i64 nk, .string nt, .int .i64 nn, .int .i64 nc] 58))) := Lib.hid ((Below.refl _ _).alloc (Nat.le_refl _) _)
  obtain ⟨I, hI⟩ : ∃ I, I = pre.length := ⟨_, rfl⟩
  obtain ⟨M, hM⟩ : ∃ M, M = ns.length := ⟨_, rfl⟩
  rw [← hI] at c0 c1 c2 c3 hlen hnx KIDS ⊢
  rw [← hM] at hlen hn4 KIDS NS ⊢
  have HI := Lib.hid hI
  have HM := Lib.hid hM
  clear hI hM he hg hc hb g4 hnode t6 hns ht hok hkf
  rcases t1 with ⟨hk31, hn0, hn1⟩ | hk32
  · obtain rfl := t5 hk31
    subst hk31
    obtain ⟨u, rfl⟩ : ∃ u : Nat, nn = (u : Int) := ⟨nn.toNat, by omega⟩
    have DG := Lib.hid (fun w' => rdig_any 6 u (by omega) (by omega) w')
    have LN := Lib.hid (itoa_len hn0 hn1)
    obtain ⟨S, hS⟩ : ∃ S : ByteArray, S = ⟨(Lib.decDigits u).toArray⟩ := ⟨_, rfl⟩
    have hSz : S.size ≤ 7 := by rw [hS, bsize]; exact decDigits_len 6 u (by omega)
    have hSc : ¬ (9223372036854775807 : Int) < 1 + (S.size : Int) := by omega
    have E : Hid (∀ w', Below W.heap.size W w' → RSt (shN ⟨31, nt, (u : Int), nc⟩ (shF .nil)) W (.returned (.string ((⟨#[39]⟩ : ByteArray) ++ S))) w') := Lib.hid fun w' b => RSt.is (by
      rw [hS]
      unfold shN Lib.itoa
      rw [if_pos rfl, if_neg (show ¬ ((u : Int) < 0) by omega)]
      simp) b
    unfold RSt at DG
    rw [← hS] at DG
    generalize RSt (shN ⟨31, nt, (u : Int), nc⟩ (shF .nil)) W = Z at *
    clear hS t2 t3 t4 t5 hn0 hn1 LEN0 HG KIDS NS HC T6 HT
    go_enter Tryz.func17, Tryz.ntmps17
    go_wp2_with fail
    refine (DG.out _).mono ?_
    rintro e w1 ⟨rfl, b1⟩
    have B1 := Lib.hid (E.out _ (BA.out.trans (b1.mono BA.out.size)))
    clear b1 DG E
    go_wp2
    first | go_ret | skip
    exact B1.out
  · subst hk32
    by_cases ha : nt = sArrow
    · have hcnt := t3 ha rfl
      subst ha
      clear t5
      obtain ⟨a, ka, k2, rfl⟩ : ∃ a ka k2, k = .cons a ka k2 := by
        cases k with
        | nil => simp [F.cnt] at hcnt
        | cons a ka k2 => exact ⟨a, ka, k2, rfl⟩
      obtain ⟨c', kc, k3, rfl⟩ : ∃ c kc k3, k2 = .cons c kc k3 := by
        cases k2 with
        | nil => simp [F.cnt] at hcnt
        | cons a ka k2 => exact ⟨a, ka, k2, rfl⟩
      obtain rfl : k3 = .nil := by
        cases k3 with
        | nil => rfl
        | cons _ _ _ => simp [F.cnt] at hcnt
      obtain ⟨N2, hN2⟩ : ∃ N2, N2 = I + 1 + 1 + ka.sz := ⟨_, rfl⟩
      have hN9 : N2 < M := by
        have h1 := HE.out
        have : ns.length = pre.length + (1 + (1 + ka.flat.length + (1 + kc.flat.length + post.length))) := by rw [h1]; simp [F.flat]; omega
        rw [F.flat_length] at this
        rw [HM.out, hN2, HI.out]; omega
      have hst : startsF (.cons a ka (.cons c' kc .nil)) (I + 1) = [I + 1, N2] := by simp [startsF, hN2]
      obtain ⟨I1, hI1⟩ : ∃ I1, I1 = I + 1 := ⟨_, rfl⟩
      rw [hst, ← hI1] at KIDS
      have oa : okT (.cons a ka .nil) := by obtain ⟨a1, a2, a3, a4, a5, a6, _⟩ := T6.out; exact ⟨a1, a2, a3, a4, a5, a6, trivial⟩
      have oc : okT (.cons c' kc .nil) := by obtain ⟨_, _, _, _, _, _, h⟩ := T6.out; exact h
      have P1 := Lib.hid (fun w' (b : Below W.heap.size W w') => HG.out.1 _ w' (by have := NS.out w' b; rw [HM.out] at this; exact this) (pre ++ [⟨32, sArrow, nn, nc⟩]) (c' :: (kc.flat ++ post)) (by rw [HE.out]; simp [F.flat]))
      have P2 := Lib.hid (fun w' (b : Below W.heap.size W w') => HG.out.2.1 _ w' (by have := NS.out w' b; rw [HM.out] at this; exact this) (pre ++ (⟨32, sArrow, nn, nc⟩ :: a :: ka.flat)) post (by rw [HE.out]; simp [F.flat]))
      rw [show (pre ++ [(⟨32, sArrow, nn, nc⟩ : Nd)]).length = I1 by rw [hI1, HI.out]; simp, ← HM.out] at P1
      rw [show (pre ++ ((⟨32, sArrow, nn, nc⟩ : Nd) :: a :: ka.flat)).length = N2 by rw [hN2, HI.out]; simp [F.flat_length]; omega, ← HM.out] at P2
      obtain ⟨S1, hS1⟩ : ∃ S : ByteArray, S = ⟨(shN a (shF ka)).toArray⟩ := ⟨_, rfl⟩
      obtain ⟨S2, hS2⟩ : ∃ S : ByteArray, S = ⟨(shN c' (shF kc)).toArray⟩ := ⟨_, rfl⟩
      have z1 : S1.size ≤ 1000000000000 := by
        rw [hS1, bsize]; have := shN_one a ka oa
        have h2 : ka.sz ≤ 4000 := by simp only [F.sz] at hnx; omega
        omega
      have z2 : S2.size ≤ 1000000000000 := by
        rw [hS2, bsize]; have := shN_one c' kc oc
        have h2 : kc.sz ≤ 4000 := by simp only [F.sz] at hnx; omega
        omega
      obtain ⟨y, hy⟩ : ∃ y, y = decide (a.text = sArrow) := ⟨_, rfl⟩
      have BR := Lib.hid (fun w' => rbrk_any S1 y w' (by omega))
      obtain ⟨B1, hB1⟩ : ∃ S : ByteArray, S = ⟨(brk y S1.data.toList).toArray⟩ := ⟨_, rfl⟩
      have z3 : B1.size ≤ 1000000000002 := by
        rw [hB1, bsize]; have := brk_len y S1.data.toList
        have h2 : S1.data.toList.length = S1.size := by rw [Array.length_toList]; rfl
        omega
      have E : Hid (∀ w', Below W.heap.size W w' → RSt (shN ⟨32, sArrow, nn, nc⟩ (shF (.cons a ka (.cons c' kc .nil)))) W (.returned (.string (B1 ++ ⟨#[32, 45, 62, 32]⟩ ++ S2))) w') := Lib.hid fun w' b => RSt.is (by
        rw [hB1, hy, hS1, hS2]
        simp [shN, shF]) b
      unfold RSt at P1 P2 BR
      rw [← hS1] at P1
      rw [← hS2] at P2
      rw [← hB1] at BR
      have g1 : ¬ (9223372036854775807 : Int) < (B1.size : Int) + 4 := by omega
      have g2 : ¬ (9223372036854775807 : Int) < (B1.size : Int) + 4 + (S2.size : Int) := by omega
      have HY : Hid ((a.text.toList == [45, 62]) = y) := Lib.hid (by
        rw [hy]
        by_cases h : a.text = sArrow
        · rw [h, tl_arrow, decide_eq_true rfl]; rfl
        · have := str_ne h
          rw [tl_arrow] at this
          rw [this, decide_eq_false h])
      have CA : Hid (∀ w', Below W.heap.size W w' → w'.cell? ⟨bb, off + I1 * 4 + 1, none⟩ = some (.string a.text)) := Lib.hid fun w' b => by
        obtain ⟨_, a1, _, _⟩ := CellsIn.node (HC.out.2.kept (b.block bb HC.out.1)) I1 (by rw [← HM.out]; omega)
        have e : ns.getD I1 default = a := by rw [HE.out, hI1, HI.out]; simp [F.flat, List.getD_eq_getElem?_getD]
        rw [e] at a1; exact a1
      generalize RSt (shN ⟨32, sArrow, nn, nc⟩ (shF (.cons a ka (.cons c' kc .nil)))) W = Z at *
      have hI9 : I1 < M := by omega
      clear t2 t3 t4 hcnt HT T6 oa oc HG NS HE LEN0 hst hN2 hS1 hS2 hB1 hy hI1
      unfold sArrow at c1 BA
      obtain ⟨at_, hat⟩ : ∃ t, t = a.text := ⟨_, rfl⟩
      rw [← hat] at CA HY
      clear hat
      go_enter Tryz.func17, Tryz.ntmps17
      go_wp2_with fail
      refine (KIDS.out _ BA.out).mono ?_
      rintro e w1 ⟨kv, rfl, hkv, b1⟩
      have B0 := Lib.hid (BA.out.trans (b1.mono BA.out.size))
      have bx : w1.heap[W.heap.size]? = some (.cells #[.int .i64 32, .string ⟨#[45, 62]⟩, .int .i64 nn, .int .i64 nc] 58 (0, 0)) := (b1.block W.heap.size (by simp)).trans (heap_alloc_new W _)
      have x1 := Lib.cell_of_heap bx 1
      simp only [List.getElem?_toArray, List.getElem?_cons_succ, List.getElem?_cons_zero] at x1
      obtain ⟨_, kq, kcap, rfl, _, _, h4⟩ := hkv
      obtain ⟨kb, ko, rfl, hkb, hkc⟩ := h4 (by simp [ofNats])
      have d0 := hkc 0 _ rfl
      have d1 := hkc 1 _ rfl
      rw [Nat.add_zero] at d0
      rw [show (ofNats [I1, N2]).length = 2 from rfl]
      have ca := CA.out w1 B0.out
      clear h4 hkc b1 KIDS CA bx
      have Q1 := Lib.hid (fun w' (b : Below w1.heap.size w1 w') => P1.out w' (B0.out.trans (b.mono B0.out.size)))
      have Q2 := Lib.hid (fun w' (b : Below w1.heap.size w1 w') => P2.out w' (B0.out.trans (b.mono B0.out.size)))
      clear P1 P2
      have YB := HY.out
      rw [← YB] at BR
      clear YB HY
      have e0 := cell_regrown ca
      have e1 := cell_regrown d0
      have e2 := cell_regrown d1
      clear ca d0 d1
      go_wp2_with fail
      refine wp_region_quiet_below (by kernel_rfl) (by kernel_rfl) ?_
      repeat (go_big_quiet_step ((first | (go_at_call 17; first | with_reducible exact Calls.regrown_of (Q1.out _ (below_regrown w1 _ _)) | with_reducible exact Calls.regrown_of (Q2.out _ (below_regrown w1 _ _))) | (go_at_call 54; with_reducible exact Calls.regrown_of (BR.out _)))))
      refine wpQuiet_nil ?_
      intro _ hw'
      obtain ⟨⟨dq, osq⟩, hw''⟩ := hw'
      subst hw''
      clear e0 e1 e2 Q1 Q2 BR
      have B4 := Lib.hid (E.out _ (B0.out.trans ((below_regrown w1 dq osq).mono B0.out.size)))
      go_wp2
      first | go_ret | skip
      exact B4.out
    · have t7 := str_ne ha
      rw [tl_arrow] at t7
      have t8 := str_ne' ha
      rw [tl_arrow] at t8
      clear t3 t5
      obtain ⟨full, hfull⟩ : ∃ full, full = shN ⟨32, nt, nn, nc⟩ (shF k) := ⟨_, rfl⟩
      have HF : Hid (full = nt.data.toList ++ (shF k).flatMap (fun a => 32 :: brk (decide (0 < a.1.kids)) a.2)) := Lib.hid (by rw [hfull]; unfold shN; rw [if_neg (show ¬ ((32 : Int) = 31) by decide), if_neg ha])
      have E : Hid (∀ (S : ByteArray) w', S.data.toList = full → Below W.heap.size W w' → RSt full W (.returned (.string S)) w') := Lib.hid fun S w' h b => RSt.is h b
      rw [← hfull]
      generalize hZ : RSt full W = Z at *
      obtain ⟨K, hK⟩ : ∃ K, K = k.cnt := ⟨_, rfl⟩
      have hKl : (ofNats (startsF k (I + 1))).length = K := by rw [hK, ← startsF_length k (I + 1)]; simp [ofNats]
      have hK4 : K ≤ 4000 := by rw [hK]; have := F.cnt_le k; omega
      have S0 : Hid (RL ns post k I full K 0 (I + 1) k nt) := Lib.hid ⟨⟨pre ++ [⟨32, nt, nn, nc⟩], by rw [HI.out]; simp, by rw [HE.out]; simp⟩, by rw [hK]; omega, rfl, HG.out, T6.out, by rw [HF.out], by
        have h2 : k.sz ≤ 4000 := by omega
        omega⟩
      clear hZ t2 t4 hfull ha hK HF HG HE LEN0 T6 HT
      go_enter Tryz.func17, Tryz.ntmps17
      go_wp2_with fail
      refine (KIDS.out _ BA.out).mono ?_
      rintro e w1 ⟨kv, rfl, hkv, b1⟩
      have B0 := Lib.hid (BA.out.trans (b1.mono BA.out.size))
      have bx : w1.heap[W.heap.size]? = some (.cells #[.int .i64 32, .string nt, .int .i64 nn, .int .i64 nc] 58 (0, 0)) := (b1.block W.heap.size (by simp)).trans (heap_alloc_new W _)
      have x1 := Lib.cell_of_heap bx 1
      simp only [List.getElem?_toArray, List.getElem?_cons_succ, List.getElem?_cons_zero] at x1
      obtain ⟨_, kq, kcap, rfl, _, _, h4⟩ := hkv
      have KC := Lib.hid h4
      rw [hKl] at KC ⊢
      clear h4 hKl b1 KIDS bx
      go_wp2
      go_loopw [7, 8] (fun s7 s8 wr => ∃ (j pos : Nat) (g : F) (S : ByteArray), s8 = .int .i64 j ∧ s7 = .string S ∧ j ≤ K ∧ Hid (RL ns post k I full K j pos g S) ∧ Hid (Below w1.heap.size w1 wr)) (fun _ s8 _ => K - (intOf s8).toNat)
      case atStart => exact ⟨0, I + 1, k, nt, rfl, rfl, Nat.zero_le _, S0, Lib.hid (Below.refl _ _)⟩
      case round =>
        obtain ⟨wo, hwo⟩ : ∃ wo : World, wo = wr := ⟨_, rfl⟩
        subst hwo
        obtain ⟨j, pos, g, S, rfl, rfl, hjK, HW, HB⟩ := hrel
        clear S0 x1
        cases g with
        | nil =>
          have hjk : j = K := by have := HW.out.cnt; simpa [F.cnt] using this
          subst hjk
          have t0 : decide ((j : Int) < (j : Int)) = false := by simp
          have H2 := Lib.hid (E.out S wo (by have := HW.out.txt; simpa [shF] using this) (B0.out.trans (HB.out.mono B0.out.size)))
          clear HW
          go_wp2
          first | go_ret | skip
          exact H2.out
        | cons a ka r =>
          have hlt : j < K := by have := HW.out.cnt; simp only [F.cnt] at this; omega
          have t0 : decide ((j : Int) < (K : Int)) = true := by simpa using hlt
          obtain ⟨pre', hp1, hp2⟩ := HW.out.at_
          obtain ⟨dr1, dr2⟩ := startsF_head HW.out.drop
          obtain ⟨o1, o2, o3, o4, o5, o6, o7⟩ := HW.out.ok
          have oa : okT (.cons a ka .nil) := ⟨o1, o2, o3, o4, o5, o6, trivial⟩
          have LA := Lib.hid (shN_one a ka oa)
          have hpM : pos < M := by rw [hp1, HM.out, hp2]; simp [F.flat]
          obtain ⟨kb, ko, rfl, hkb, hkc⟩ := KC.out (by omega)
          have d0 : wo.cell? ⟨kb, ko + j, none⟩ = some (.int .i64 (pos : Int)) := by
            have h1 := (hkc.kept (HB.out.block kb hkb)) j (.int .i64 (pos : Int)) (by
              have : (intCells (ofNats (startsF k (I + 1))))[j]? = some (Value.int .i64 ((ofNats (startsF k (I + 1))).getD j 0)) := by
                have hl2 : j < (ofNats (startsF k (I + 1))).length := by
                  have h3 : ((ofNats (startsF k (I + 1))).length) = k.cnt := by rw [← startsF_length k (I + 1)]; simp [ofNats]
                  apply Classical.byContradiction
                  intro h9
                  have h8 := congrArg List.length HW.out.drop
                  rw [List.length_drop, startsF_length, startsF_length] at h8
                  simp only [F.cnt] at h8
                  rw [h3] at h9; omega
                rw [List.getD_eq_getElem?_getD, List.getElem?_eq_getElem hl2]
                simp [intCells, hl2]
              rw [this, dr1])
            exact h1
          obtain ⟨cb, cc⟩ := HC.out
          have bW := B0.out.trans (HB.out.mono B0.out.size)
          obtain ⟨a0, a1, a2, a3⟩ := CellsIn.node (cc.kept (bW.block bb cb)) pos (by rw [← HM.out]; exact hpM)
          have ea : ns.getD pos default = a := by rw [hp2, hp1]; simp [F.flat, List.getD_eq_getElem?_getD]
          rw [ea] at a0 a3
          have P1 := Lib.hid (fun w' (b : Below wo.heap.size wo w') => HW.out.good.1 _ w' (by have := NS.out w' (bW.trans (b.mono bW.size)); rw [HM.out] at this; exact this) pre' (r.flat ++ post) (by rw [hp2]; simp [F.flat]))
          rw [← hp1, ← HM.out] at P1
          obtain ⟨S1, hS1⟩ : ∃ S : ByteArray, S = ⟨(shN a (shF ka)).toArray⟩ := ⟨_, rfl⟩
          have hsz := HW.out.len
          simp only [F.sz] at hsz
          have z1 : S1.size + 3 ≤ 100000020 * (1 + ka.sz) := by rw [hS1, bsize]; exact LA.out
          have hy : (decide (a.kind = 32) && decide (0 < a.kids)) = decide (0 < a.kids) := by
            rcases o1 with ⟨e1, _⟩ | e1
            · have e2 := o5 e1
              have e3 : a.kids = 0 := by rw [o4, e2]; rfl
              rw [e3]; simp
            · rw [decide_eq_true e1]; simp
          obtain ⟨y, hy1⟩ : ∃ y, y = decide (0 < a.kids) := ⟨_, rfl⟩
          have BR := Lib.hid (fun w' => rbrk_any S1 y w' (by omega))
          obtain ⟨B1, hB1⟩ : ∃ S : ByteArray, S = ⟨(brk y S1.data.toList).toArray⟩ := ⟨_, rfl⟩
          have z3 : B1.size ≤ S1.size + 2 := by
            rw [hB1, bsize]; have := brk_len y S1.data.toList
            have h2 : S1.data.toList.length = S1.size := by rw [Array.length_toList]; rfl
            omega
          unfold RSt at P1 BR
          rw [← hS1] at P1
          rw [← hB1] at BR
          have NEXT : Hid (RL ns post k I full K (j + 1) (pos + 1 + ka.sz) r (S ++ (⟨#[32]⟩ ++ B1))) := Lib.hid ⟨⟨pre' ++ (a :: ka.flat), by rw [hp1]; simp [F.flat_length]; omega, by rw [hp2]; simp [F.flat]⟩, by have := HW.out.cnt; simp only [F.cnt] at this; omega, dr2, HW.out.good.2, o7, by
            rw [← HW.out.txt, hB1, hy1, hS1]; simp [shF], by
            have e1 : (S ++ ((⟨#[32]⟩ : ByteArray) ++ B1)).size = S.size + (1 + B1.size) := by rw [ByteArray.size_append, ByteArray.size_append]; rfl
            rw [e1]; omega⟩
          have g1 : ¬ (9223372036854775807 : Int) < 1 + (B1.size : Int) := by omega
          have g2 : ¬ (9223372036854775807 : Int) < (S.size : Int) + (1 + (B1.size : Int)) := by omega
          have KD : Hid (a.kind = 32 ∨ (a.kind = 32) = False) := Lib.hid (by by_cases h : a.kind = 32; exact .inl h; exact .inr (eq_false h))
          have HY1 := Lib.hid hy1
          have HY2 := Lib.hid hy
          obtain ⟨ak, hak⟩ : ∃ t, t = a.kind := ⟨_, rfl⟩
          obtain ⟨ac, hac⟩ : ∃ t, t = a.kids := ⟨_, rfl⟩
          rw [← hak] at a0 KD HY2
          rw [← hac] at a3 HY1 HY2
          clear hp1 hp2 dr1 dr2 o1 o2 o3 o4 o5 o6 o7 oa LA HW hS1 hB1 hy hy1 hak hac cb cc bW a1 a2 hkc ea hsz z1 z3
          have e0 := cell_regrown d0
          have e1 := cell_regrown a0
          have e2 := cell_regrown a3
          clear d0 a0 a3
          rcases KD.out with h32 | h32
          · subst h32
            have HYY := HY1.out
            rw [HYY] at BR
            clear HYY HY1 HY2 KD
            go_wp2_with fail
            refine wp_region_quiet_below (by kernel_rfl) (by kernel_rfl) ?_
            repeat (go_big_quiet_step ((first | (go_at_call 17; with_reducible exact Calls.regrown_of (P1.out _ (below_regrown wo _ _))) | (go_at_call 54; with_reducible exact Calls.regrown_of (BR.out _)))))
            refine wpQuiet_nil ?_
            intro _ hw'
            obtain ⟨⟨dq, osq⟩, hw''⟩ := hw'
            subst hw''
            clear e0 e1 e2 P1 BR
            have B4 := Lib.hid (HB.out.trans ((below_regrown wo dq osq).mono HB.out.size))
            go_wp2
            go_roundw
            case rel => exact ⟨j + 1, pos + 1 + ka.sz, r, S ++ (⟨#[32]⟩ ++ B1), by go_num, rfl, by omega, NEXT, B4⟩
            case measure => simp [intOf]; omega
          · have n32 : ¬ ak = 32 := by rw [h32]; exact id
            have t1 : (ak == 32) = false := by simpa using n32
            have HYY := HY1.out
            have HZZ := HY2.out
            rw [decide_eq_false n32, Bool.false_and] at HZZ
            rw [← HZZ] at HYY
            rw [HYY] at BR
            clear HYY HZZ HY1 HY2 KD h32 n32
            go_wp2_with fail
            refine wp_region_quiet_below (by kernel_rfl) (by kernel_rfl) ?_
            repeat (go_big_quiet_step ((first | (go_at_call 17; with_reducible exact Calls.regrown_of (P1.out _ (below_regrown wo _ _))) | (go_at_call 54; with_reducible exact Calls.regrown_of (BR.out _)))))
            refine wpQuiet_nil ?_
            intro _ hw'
            obtain ⟨⟨dq, osq⟩, hw''⟩ := hw'
            subst hw''
            clear e0 e1 e2 P1 BR
            have B4 := Lib.hid (HB.out.trans ((below_regrown wo dq osq).mono HB.out.size))
            go_wp2
            go_roundw
            case rel => exact ⟨j + 1, pos + 1 + ka.sz, r, S ++ (⟨#[32]⟩ ++ B1), by go_num, rfl, by omega, NEXT, B4⟩
            case measure => simp [intOf]; omega
theorem all_goodR (ns : List Nd) (hn4 : ns.length ≤ 4000) (f : F) : okT f → f.ok → AllGoodR ns f := by
  induction f with
  | nil => intro _ _; trivial
  | cons n k r hk hr =>
    rintro ⟨a1, a2, a3, a4, a5, a6, a7⟩ ⟨b1, b2, b3⟩
    exact ⟨rshow_one n k ns hn4 (hk a6 b2) ⟨a1, a2, a3, a4, a5, a6, trivial⟩ ⟨b1, b2, trivial⟩, hr a7 b3⟩
theorem rshow_any (tv : Value) (n : Nd) (k : F) (w : World) (hns : NodesAt w tv (n :: k.flat)) (h4 : (n :: k.flat).length ≤ 4000) (ht : okT (.cons n k .nil)) (hok : (F.cons n k .nil).ok) : Calls Tryz.prog 17 #[tv, .int .i64 0] w (RSt (shN n (shF k)) w) :=
  (all_goodR (n :: k.flat) h4 (.cons n k .nil) ht hok).1 tv w hns [] [] (by simp)
end Go.Proofs.YtncifeeinogcnaaGreatDoor
/- The chapter's example: plain mathematics. -/
set_option maxRecDepth 100000
namespace Go.Proofs.YtncifeeinogcnaaGreatDoor
open Go.RowKit Go.Lib Go.Maps Go.Proofs.TreeMath

def nX : Nd := ⟨32, sInt, 0, 0⟩
def tX : Nd := ⟨32, sText, 0, 0⟩
def aX : Nd := ⟨32, sArrow, 0, 2⟩
def sA (v : Int) : T := if v = 0 then (tX, .nil) else if v = 1 then (nX, .nil) else vT v
theorem sA0 : sA 0 = (tX, .nil) := rfl
theorem sA1 : sA 1 = (nX, .nil) := rfl
theorem sA_other {v : Int} (h0 : v ≠ 0) (h1 : v ≠ 1) : sA v = vT v := by unfold sA; rw [if_neg h0, if_neg h1]
theorem mguA : Mgu [((aX, .cons (vN 0) .nil (.cons nX .nil .nil)), (aX, .cons tX .nil (.cons (vN 1) .nil .nil)))] sA := by
  refine ⟨fun e he => ?_, fun t ht v => ?_, fun v => ?_, fun v u h => ?_⟩
  · rw [List.mem_singleton] at he; subst he; rfl
  · have h := ht _ List.mem_cons_self
    have e1 : subT t (aX, .cons (vN 0) .nil (.cons nX .nil .nil)) = (aX, .cons (t 0).1 (t 0).2 (.cons nX .nil .nil)) := rfl
    have e2 : subT t (aX, .cons tX .nil (.cons (vN 1) .nil .nil)) = (aX, .cons tX .nil (.cons (t 1).1 (t 1).2 .nil)) := rfl
    simp only at h
    rw [e1, e2] at h
    have hp := congrArg (fun x : T => match x.2 with | .cons a b (.cons c d .nil) => (((a, b), (c, d)) : T × T) | _ => ((vN 0, F.nil), (vN 0, F.nil))) h
    have p0 : t 0 = (tX, F.nil) := congrArg Prod.fst hp
    have p1 : (nX, F.nil) = t 1 := congrArg Prod.snd hp
    by_cases h0 : v = 0
    · subst h0
      rw [sA0, subT_con _ _ (by decide)]
      exact p0.symm
    · by_cases h1 : v = 1
      · subst h1
        rw [sA1, subT_con _ _ (by decide)]
        exact p1
      · rw [sA_other h0 h1, subT_vT]
  · by_cases h0 : v = 0
    · subst h0; exact ⟨fun h => absurd h (by decide), trivial⟩
    · by_cases h1 : v = 1
      · subst h1; exact ⟨fun h => absurd h (by decide), trivial⟩
      · rw [sA_other h0 h1]; exact wvT_vT v
  · by_cases h0 : v = 0
    · subst h0; rw [sA0] at h; exact absurd (show (32 : Int) = 31 from congrArg (fun t => t.1.kind) h) (by decide)
    · by_cases h1 : v = 1
      · subst h1; rw [sA1] at h; exact absurd (show (32 : Int) = 31 from congrArg (fun t => t.1.kind) h) (by decide)
      · rw [sA_other h0 h1] at h
        have : v = u := congrArg (fun t => t.1.num) h
        omega
theorem bindsA : bindsOf sA [0, 1] = [(0, [tX]), (1, [nX])] := by
  have e : bindsOf sA [0, 1] = bind1 sA 0 ++ (bind1 sA 1 ++ []) := by simp [bindsOf]
  rw [e, bind1_more (by rw [sA0]; intro h; exact absurd (congrArg (fun t => t.1.kind) h) (by decide)), bind1_more (by rw [sA1]; intro h; exact absurd (congrArg (fun t => t.1.kind) h) (by decide))]
  rfl
theorem outA : UyOut [aX, vN 0, nX] [aX, tX, vN 1] 0 [(0, [tX]), (1, [nX])] :=
  .ok (by decide +kernel) (by decide +kernel) aX aX (.cons (vN 0) .nil (.cons nX .nil .nil)) (.cons tX .nil (.cons (vN 1) .nil .nil)) rfl rfl
    ⟨.inr ⟨rfl, rfl⟩, ⟨.inl ⟨rfl, rfl, by decide, rfl⟩, trivial, .inr ⟨rfl, rfl⟩, trivial, trivial⟩, trivial⟩ ⟨.inr ⟨rfl, rfl⟩, ⟨.inr ⟨rfl, rfl⟩, trivial, .inl ⟨rfl, rfl, by decide, rfl⟩, trivial, trivial⟩, trivial⟩
    sA mguA [0, 1] (by decide) (fun v h => by
      by_cases h0 : v = 0
      · simp [h0]
      · by_cases h1 : v = 1
        · simp [h1]
        · exact absurd (sA_other h0 h1) h) (fun v h => by simp at h; omega) (fun v => by
      by_cases h0 : v = 0
      · subst h0; rw [sA0]; decide
      · by_cases h1 : v = 1
        · subst h1; rw [sA1]; decide
        · rw [sA_other h0 h1]; show (1 : Nat) + 0 ≤ 4000; decide) (by decide) rfl bindsA.symm
theorem outB : UyOut [nX] [tX] 91 [] :=
  .clash (by decide +kernel) (by decide +kernel) nX tX .nil .nil rfl rfl ⟨.inr ⟨rfl, rfl⟩, trivial, trivial⟩ ⟨.inr ⟨rfl, rfl⟩, trivial, trivial⟩ (fun s h => by
    have := h _ List.mem_cons_self
    rw [subT_con _ _ (by decide), subT_con _ _ (by decide)] at this
    exact absurd (show (3 : Nat) = 4 from congrArg (fun t => t.1.text.size) this) (by decide)) rfl rfl
theorem prs_two {bs : List BT} {a b : Int × List Nd} (h : prs bs = [a, b]) : ∃ u v, bs = [(a.1, a.2, u), (b.1, b.2, v)] := by
  cases bs with
  | nil => simp [prs] at h
  | cons x bs =>
    cases bs with
    | nil => simp [prs] at h
    | cons y bs =>
      cases bs with
      | cons _ _ => simp [prs] at h
      | nil =>
        obtain ⟨x1, x2, x3⟩ := x
        obtain ⟨y1, y2, y3⟩ := y
        simp only [prs, List.map_cons, List.map_nil, List.cons.injEq, and_true] at h
        obtain ⟨rfl, rfl⟩ := h
        exact ⟨x3, y3, rfl⟩
/-- The variable 5 that was made a number. -/
theorem mguR {s : Int → T} (h : Mgu [((vN 5, .nil), (nX, .nil))] s) : rs s [vN 5] = [nX] := by
  have := h.un _ List.mem_cons_self
  rw [show ((vN 5, F.nil) : T) = vT 5 from rfl, subT_vT, subT_con _ _ (by decide)] at this
  simp only [rs, List.flatMap_cons, List.flatMap_nil, List.append_nil, rs1]
  rw [if_pos (show (vN 5).kind = 31 from rfl), show (vN 5).num = 5 from rfl, this]
  rfl
def fX : Nd := ⟨32, sArrow, 0, 2⟩
theorem showX : shN fX (shF (.cons fX (.cons (vN 3) .nil (.cons nX .nil .nil)) (.cons tX .nil .nil))) = [40, 39, 51, 32, 45, 62, 32, 105, 110, 116, 41, 32, 45, 62, 32, 116, 101, 120, 116] := by
  decide +kernel
theorem canonX : (if tyB [vN 4] = true then canonN [vN 4] else []) = [vN 0] := by decide +kernel
theorem varsX : (if tyB [vN 4] = true then varsN [vN 4] else []) = [4] := by decide +kernel
end Go.Proofs.YtncifeeinogcnaaGreatDoor
