/- The document's twice, of an expression; its Check. -/
import Derived.Test.YtlalnmefppbebaaSynW
import Derived.Test.YtlalnmefppbebaaRefUp
namespace Go.Proofs.Ytlalnmefppbebaa
open Go.RowKit Go.Proofs.TreeMath
set_option maxRecDepth 100000 in
set_option maxHeartbeats 8000000 in
theorem twice_exp (W : World) (ns : List Nd) (bd off cap : Nat) (n : Nd) (k : F) (hN : ns.length ≤ 4000) (hat : NodesAt W (.slice (some ⟨bd, off, none⟩) ns.length cap) ns) (hb : bd < W.heap.size) (hc : Hid (CellsIn W bd off (nodeCells ns))) (hk : Hid (AllT W (.slice (some ⟨bd, off, none⟩) ns.length cap) ns k))
    (hk1 : Hid (n.kids = k.cnt)) (hk2 : Hid k.ok) (hp : isPatB n.kind = false) (pre post : List Nd) (w : World) (hns : ns = pre ++ (n :: (k.flat ++ post))) (hbel : Below W.heap.size W w) :
    Calls Try.prog 35 #[.slice (some ⟨bd, off, none⟩) ns.length cap, .int .i64 (pre.length : Int)] w (RB (twR k) w) := by
  have hlen : ns.length = pre.length + (1 + k.sz + post.length) := by rw [hns]; simp [F.flat_length]; omega
  have hi : pre.length < ns.length := by omega
  have hnode : ns.getD pre.length default = n := by rw [hns]; simp [List.getD_eq_getElem?_getD]
  have hcw := hc.out.kept (hbel.block bd hb)
  obtain ⟨c0, -, -, -⟩ := hcw.node pre.length hi
  rw [hnode] at c0
  have hbw : bd < w.heap.size := Nat.lt_of_lt_of_le hb hbel.size
  have hcs := F.cnt_le k
  have hkids : kidsI (kk ns) pre.length = startsF k (pre.length + 1) := by
    have := kids_flat n k hk1.out hk2.out pre post
    rw [← hns] at this
    exact this
  have KIDS := Lib.hid (fun (W2 : World) (hW : Below w.heap.size w W2) => ref_kids _ ns (pre.length : Int) W2 ((hat.below hbel).below hW) (by omega))
  rw [hkids] at KIDS
  have IP := Lib.hid (fun w => isPat_any n.kind w)
  rw [show (decide (21 ≤ n.kind) && decide (n.kind ≤ 24)) = false from hp] at IP
  have hszk : k.cnt ≤ 4000 := by omega
  have HNS := Lib.hid hns
  obtain ⟨I, hI⟩ : ∃ I, I = pre.length := ⟨_, rfl⟩
  obtain ⟨M, hM⟩ : ∃ M, M = ns.length := ⟨_, rfl⟩
  rw [← hI, ← hM]
  rw [← hI] at c0 hi KIDS
  rw [← hM] at hi hN KIDS hk
  have HI := Lib.hid hI
  have HB := Lib.hid hbel
  clear hI hM hns hlen hnode hkids hat hbel hcw
  obtain ⟨k0, t0, m0, d0⟩ := n
  simp only at c0 hk1 IP
  obtain ⟨R, hR⟩ : ∃ R, R = twR k := ⟨_, rfl⟩
  rw [← hR]
  have HR := Lib.hid hR
  clear hR hp
  go_enter Try.func35, Try.ntmps35
  go_wp2_with fail
  refine (IP.out _).mono ?_
  rintro e w1 ⟨rfl, rfl⟩
  go_wp2_with fail
  refine (KIDS.out _ (Below.refl _ _)).mono ?_
  rintro e w2 ⟨kv, rfl, hkv, b2⟩
  obtain ⟨hl1, kp, kc, rfl, _, _, hq⟩ := hkv
  rw [show (ofNats (startsF k (I + 1))).length = k.cnt by simp [ofNats, startsF_length]] at hq ⊢
  have B2 := Lib.hid b2
  have HQ := Lib.hid hq
  clear hq hl1 b2 c0
  go_wp2_with fail
  go_loopw [9] (fun s9 wr => ∃ (j Q : Nat) (g : F) (pre' : List Nd), j + g.cnt = k.cnt ∧ s9 = .int .i64 (j : Int) ∧ (startsF k (I + 1)).drop j = startsF g Q ∧ Q = pre'.length ∧ ns = pre' ++ (g.flat ++ post) ∧ twR g = R ∧ AllT W (.slice (some ⟨bd, off, none⟩) M cap) ns g ∧ Below w2.heap.size w2 wr) (fun s9 _ => k.cnt - (intOf s9).toNat)
  case atStart =>
    exact ⟨0, I + 1, k, pre ++ [⟨k0, t0, m0, d0⟩], by omega, rfl, rfl, by rw [List.length_append, ← HI.out]; rfl, by rw [HNS.out]; simp, HR.out.symm, hk.out, Below.refl _ _⟩
  case round =>
    obtain ⟨wo, hwo⟩ : ∃ wo : World, wo = wr := ⟨_, rfl⟩
    subst hwo
    obtain ⟨j, Q, g, pre', hj, rfl, hdr, hQ, hns', hres, hgood, hbe⟩ := hrel
    have BE := Lib.hid hbe
    have BW := Lib.hid (B2.out.trans (hbe.mono B2.out.size))
    rcases g with _ | ⟨n1, k1, r1⟩
    · have hj' : j = k.cnt := by simpa [F.cnt] using hj
      subst hj'
      have e : false = R := hres
      subst e
      clear hj hdr hQ hns' hres hgood hbe
      go_wp2
      go_ret
      exact ⟨rfl, BW.out⟩
    · have hlt : j < k.cnt := by simp only [F.cnt] at hj; omega
      rw [startsF_cons] at hdr
      obtain ⟨d1, d2, d3⟩ := drop_head hdr
      obtain ⟨b2, o2, rfl, hb2, hc2⟩ := HQ.out (by omega)
      have cj := hc2.int j (by simpa [ofNats] using d1)
      rw [ofNats_get, d2] at cj
      have cj2 := (BE.out.cell (p := ⟨b2, o2 + j, none⟩) hb2).trans cj
      rw [twR_cons] at hres
      have HC := Lib.hid (hgood.1 pre' (r1.flat ++ post) wo (by rw [hns']; simp [F.flat]) (HB.out.trans (BW.out.mono HB.out.size)))
      rw [← hQ] at HC
      have hltz : ((j : Int) < (k.cnt : Int)) := by omega
      have REST := Lib.hid (And.intro hj (And.intro hQ (And.intro hns' (And.intro hgood.2 d3))))
      obtain ⟨X, hX⟩ : ∃ X, X = twT n1 k1 (twR k1) := ⟨_, rfl⟩
      rw [← hX] at hres HC
      have HRES := Lib.hid hres
      clear hj hQ hns' hgood hdr d1 d2 d3 hres hbe cj hX hc2
      cases X with
      | true =>
        have e := HRES.out
        rw [Bool.true_or] at e
        subst e
        clear HRES
        go_wp2_with fail
        refine HC.out.mono ?_
        rintro e w4 ⟨rfl, b4⟩
        have B4 := Lib.hid b4
        clear b4
        go_wp2_with fail
        go_ret
        exact ⟨rfl, BW.out.trans (B4.out.mono BW.out.size)⟩
      | false =>
        go_wp2_with fail
        refine HC.out.mono ?_
        rintro e w4 ⟨rfl, b4⟩
        have B4 := Lib.hid b4
        clear b4
        go_wp2_with fail
        go_roundw
        case rel =>
          obtain ⟨hj, hQ, hns', hg2, d3⟩ := REST.out
          exact ⟨j + 1, Q + 1 + k1.sz, r1, pre' ++ (n1 :: k1.flat), by simp only [F.cnt] at hj; omega, by go_num, d3, by rw [List.length_append, ← hQ]; simp [F.flat_length]; omega, by rw [hns']; simp [F.flat], by have := HRES.out; rwa [Bool.false_or] at this, hg2, BE.out.trans (B4.out.mono BE.out.size)⟩
        case measure => simp [intOf]; omega
theorem twice_all (W : World) (ns : List Nd) (bd off cap : Nat) (hN : ns.length ≤ 4000) (hat : NodesAt W (.slice (some ⟨bd, off, none⟩) ns.length cap) ns) (hb : bd < W.heap.size) (hc : CellsIn W bd off (nodeCells ns)) (f : F) : f.ok → AllT W (.slice (some ⟨bd, off, none⟩) ns.length cap) ns f := by
  induction f with
  | nil => intro _; trivial
  | cons n k r hk hr =>
    rintro ⟨h1, h2, h3⟩
    refine ⟨fun pre post w hns hbel => ?_, hr h3⟩
    unfold twT
    cases hp : isPatB n.kind with
    | true => exact twice_pat W ns bd off cap n k hN hat hb (Lib.hid hc) (Lib.hid h1) (Lib.hid h2) hp pre post w hns hbel
    | false => exact twice_exp W ns bd off cap n k hN hat hb (Lib.hid hc) (Lib.hid (hk h2)) (Lib.hid h1) (Lib.hid h2) hp pre post w hns hbel
theorem nodes_all (W : World) (ns : List Nd) (bd off cap : Nat) (hN : ns.length ≤ 4000) (hat : NodesAt W (.slice (some ⟨bd, off, none⟩) ns.length cap) ns) (hb : bd < W.heap.size) (hc : CellsIn W bd off (nodeCells ns)) (ht : ∀ x ∈ ns, x.text.size ≤ 300) (f : F) : f.ok → AllC W (.slice (some ⟨bd, off, none⟩) ns.length cap) ns f := by
  induction f with
  | nil => intro _; trivial
  | cons n k r hk hr =>
    rintro ⟨h1, h2, h3⟩
    exact ⟨fun pre post pat w hns hbel => nodes_good W ns bd off cap n k pat hN hat hb (Lib.hid hc) (Lib.hid ht) (Lib.hid (hk h2)) (Lib.hid h1) (Lib.hid h2) pre post w hns hbel, hr h3⟩
/-! ### Check -/
theorem rcheck_not (p : Option Addr) (n c : Nat) (pat : Bool) (ns : List Nd) (w : World) (h : Hid (NodesAt w (.slice p n c) ns)) (hn : n ≤ 4000) (hl : Hid (ns.length = n)) (hw : Hid (wholeB (kk ns) = false)) : Calls Try.prog 13 #[.slice p n c, .bool pat] w (RI 60 w) := by
  have WH := Lib.hid (fun W (hW : NodesAt W (.slice p n c) ns) => ref_whole _ ns W hW (by rw [hl.out]; omega))
  rw [hw.out] at WH
  have g0 : decide ((4000 : Int) < (n : Int)) = false := by simp; omega
  go_enter Try.func13, Try.ntmps13
  go_wp2_with fail
  refine (WH.out _ h.out).mono ?_
  rintro e w' ⟨rfl, rfl⟩
  go_wp2_with fail
  go_ret
  exact ⟨rfl, Below.refl _ _⟩
theorem rcheck_deep (p : Option Addr) (n c : Nat) (pat : Bool) (ns : List Nd) (D : Nat) (w : World) (h : Hid (NodesAt w (.slice p n c) ns)) (hn : n ≤ 4000) (hl : Hid (ns.length = n)) (hw : Hid (wholeB (kk ns) = true)) (hd : Hid (deepI (kk ns) = D)) (h1 : 100 < D) : Calls Try.prog 13 #[.slice p n c, .bool pat] w (RI 60 w) := by
  have WH := Lib.hid (fun W (hW : NodesAt W (.slice p n c) ns) => ref_whole _ ns W hW (by rw [hl.out]; omega))
  have DP := Lib.hid (fun W (hW : NodesAt W (.slice p n c) ns) => ref_deep _ ns W hW (by rw [hl.out]; omega) hw.out)
  rw [hw.out] at WH
  rw [hd.out] at DP
  have g0 : decide ((4000 : Int) < (n : Int)) = false := by simp; omega
  have g1 : decide ((100 : Int) < (D : Int)) = true := by simp; omega
  have g2 : decide (100 < D) = true := by simpa using h1
  clear h1
  go_enter Try.func13, Try.ntmps13
  go_wp2_with fail
  refine (WH.out _ h.out).mono ?_
  rintro e w' ⟨rfl, rfl⟩
  go_wp2_with fail
  refine (DP.out _ h.out).mono ?_
  rintro e w2 ⟨_, rfl, rfl, b2⟩
  have B2 := Lib.hid b2
  clear b2
  go_wp2_with fail
  go_ret
  exact ⟨rfl, B2.out⟩
theorem rcheck_in (p : Option Addr) (n c : Nat) (pat : Bool) (ns : List Nd) (D : Nat) (E : Int) (T : Bool) (w : World) (h : Hid (NodesAt w (.slice p n c) ns)) (hn : n ≤ 4000) (hl : Hid (ns.length = n)) (hw : Hid (wholeB (kk ns) = true)) (hd : Hid (deepI (kk ns) = D)) (h1 : D ≤ 100)
    (ND : Hid (∀ W, Below w.heap.size w W → Calls Try.prog 34 #[.slice p n c, .int .i64 0, .bool pat] W (RI E W))) (TW : Hid (∀ W, Below w.heap.size w W → Calls Try.prog 35 #[.slice p n c, .int .i64 0] W (RB T W))) (R : Int) (hR : Hid (R = if E = 0 then (if T then 63 else 0) else E)) :
    Calls Try.prog 13 #[.slice p n c, .bool pat] w (RI R w) := by
  have WH := Lib.hid (fun W (hW : NodesAt W (.slice p n c) ns) => ref_whole _ ns W hW (by rw [hl.out]; omega))
  have DP := Lib.hid (fun W (hW : NodesAt W (.slice p n c) ns) => ref_deep _ ns W hW (by rw [hl.out]; omega) hw.out)
  rw [hw.out] at WH
  rw [hd.out] at DP
  have g0 : decide ((4000 : Int) < (n : Int)) = false := by simp; omega
  have g1 : decide ((100 : Int) < (D : Int)) = false := by simp; omega
  have g2 : decide (100 < D) = false := by simpa using h1
  clear h1
  go_enter Try.func13, Try.ntmps13
  go_wp2_with fail
  refine (WH.out _ h.out).mono ?_
  rintro e w' ⟨rfl, rfl⟩
  go_wp2_with fail
  refine (DP.out _ h.out).mono ?_
  rintro e w2 ⟨_, rfl, rfl, b2⟩
  have B2 := Lib.hid b2
  clear b2
  go_wp2_with fail
  refine (ND.out _ B2.out).mono ?_
  rintro e w3 ⟨rfl, b3⟩
  have B3 := Lib.hid (B2.out.trans (b3.mono B2.out.size))
  clear b3
  by_cases hE : E = 0
  · subst hE
    go_wp2_with fail
    refine (TW.out _ B3.out).mono ?_
    rintro e w4 ⟨rfl, b4⟩
    have B4 := Lib.hid (B3.out.trans (b4.mono B3.out.size))
    clear b4
    cases T
    all_goals (go_wp2_with fail; go_ret; exact ⟨ret_i (by rw [hR.out]; rfl), B4.out⟩)
  · have gE : (E != 0) = true := by simpa using hE
    have HE := Lib.hid hE
    clear hE
    go_wp2_with fail
    go_ret
    exact ⟨ret_i (by rw [hR.out, if_neg HE.out]), B3.out⟩
theorem rcheck_any (v : Value) (ns : List Nd) (pat : Bool) (x : Int) (w : World) (h : NodesAt w v ns) (hN : ns.length ≤ 4000) (ht : Tx ns) (hx : CheckIs ns (pl pat) x) : Calls Try.prog 13 #[v, .bool pat] w (RI x w) := by
  obtain ⟨p, c, rfl⟩ := nodes_form h
  rcases hx with ⟨hw, rfl⟩ | ⟨f, h1, h2, h3, rfl⟩
  · exact rcheck_not p _ c pat ns w (Lib.hid h) hN (Lib.hid rfl) (Lib.hid hw)
  · have hw : wholeB (kk ns) = true := by rw [← h3]; exact whole_flat f h1 h2
    have hd : deepI (kk ns) = deepF f := by rw [← h3]; exact deep_flat f h1 h2
    have hs : f.sz = ns.length := by rw [← F.flat_length, h3]
    by_cases hdd : 100 < deepF f
    · rw [show synE f (pl pat) = 60 by unfold synE; rw [if_pos (.inr hdd)]]
      exact rcheck_deep p _ c pat ns _ w (Lib.hid h) hN (Lib.hid rfl) (Lib.hid hw) (Lib.hid hd) hdd
    · obtain ⟨n, k, rfl⟩ := one_of f h2
      have hns : ns = [] ++ (n :: (k.flat ++ [])) := by rw [← h3]; simp [F.flat]
      obtain ⟨bd, off, cap, hv, q1, q2, q3, q4⟩ := nodes_slice h (by rw [hns]; simp)
      simp only [Value.slice.injEq] at hv
      obtain ⟨rfl, _, rfl⟩ := hv
      have a1 := (nodes_all w ns bd off c hN h q3 q4 ht _ h1).1
      have a2 := (twice_all w ns bd off c hN h q3 q4 _ h1).1
      refine rcheck_in _ _ c pat ns _ (chkT n k (pl pat)) (twT n k (twR k)) w (Lib.hid h) hN (Lib.hid rfl) (Lib.hid hw) (Lib.hid hd) (by omega) (Lib.hid fun W hW => a1 [] [] pat W hns hW) (Lib.hid fun W hW => a2 [] [] W hns hW) _ (Lib.hid ?_)
      unfold synE
      rw [if_neg (by omega), chkF_one]
      by_cases hE : chkT n k (pl pat) = 0
      · rw [if_pos hE, hE, zero_or]
        have hm := tw_math (.cons n k .nil) h1 (fun _ => pl pat) 0 (fun _ => by cases pat; exact .inl rfl; exact .inr rfl) (by rw [chkF_one, hE])
        rw [hm, twR_cons]
        simp [twR]
      · rw [if_neg hE]
        simp [or_, hE]
end Go.Proofs.Ytlalnmefppbebaa
