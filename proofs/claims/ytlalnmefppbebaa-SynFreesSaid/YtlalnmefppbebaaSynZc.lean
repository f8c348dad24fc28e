/- What is free, kind by kind: mathematics. -/
import Derived.Test.YtlalnmefppbebaaSynA
import Derived.Test.YtlalnmefppbebaaSynT
namespace Go.Proofs.Ytlalnmefppbebaa
open Go.RowKit Go.Proofs.TreeMath
def allT : F → List ByteArray
  | .nil => []
  | .cons n k r => freeT n k ++ allT r
theorem cnt_nil {k : F} (h : k.cnt = 0) : k = .nil := by cases k with | nil => rfl | cons _ _ _ => simp [F.cnt] at h
theorem cnt_one {k : F} (h : k.cnt = 1) : ∃ n1 k1, k = .cons n1 k1 .nil := by
  cases k with
  | nil => simp [F.cnt] at h
  | cons n1 k1 r => exact ⟨n1, k1, by rw [cnt_nil (show r.cnt = 0 by simp only [F.cnt] at h; omega)]⟩
theorem cnt_two {k : F} (h : k.cnt = 2) : ∃ n1 k1 n2 k2, k = .cons n1 k1 (.cons n2 k2 .nil) := by
  cases k with
  | nil => simp [F.cnt] at h
  | cons n1 k1 r =>
    obtain ⟨n2, k2, rfl⟩ := cnt_one (show r.cnt = 1 by simp only [F.cnt] at h; omega)
    exact ⟨n1, k1, n2, k2, rfl⟩
theorem freeK_all (kind : Int) (txt : ByteArray) (h10 : kind ≠ 10) (hb : ∀ i, bindsB kind i = false) : ∀ (k : F) (i : Nat), freeK k kind txt i [] = allT k := by
  intro k
  induction k with
  | nil => intro i; rfl
  | cons n k r _ hr =>
    intro i
    rw [freeK_exp _ _ _ _ _ _ _ (fun h => h10 h.1), hb i]
    simp only [Bool.false_eq_true, if_false, lessL_nil, allT]
    rw [hr (i + 1)]
theorem free_other {n : Nd} {k : F} (h3 : n.kind ≠ 3) (h5 : n.kind ≠ 5) (h7 : n.kind ≠ 7) (h8 : n.kind ≠ 8) (h10 : n.kind ≠ 10) (h12 : n.kind ≠ 12) : freeT n k = allT k := by
  unfold freeT
  rw [if_neg h3, List.nil_append]
  exact freeK_all _ _ h10 (fun i => by simp [bindsB, h5, h7, h8, h12]) k 0
theorem free_fun1 {n : Nd} (h : n.kind = 5) (n1 : Nd) (k1 : F) : freeT n (.cons n1 k1 .nil) = lessL (freeT n1 k1) [n.text] := by
  unfold freeT
  rw [if_neg (by rw [h]; decide), List.nil_append, freeK_exp _ _ _ _ _ _ _ (by rw [h]; decide)]
  rw [show bindsB n.kind 0 = true by rw [h]; rfl]
  simp [freeK, freeT]
theorem free_let {n : Nd} (h : n.kind = 7 ∨ n.kind = 12) (n1 : Nd) (k1 : F) (n2 : Nd) (k2 : F) : freeT n (.cons n1 k1 (.cons n2 k2 .nil)) = freeT n1 k1 ++ lessL (freeT n2 k2) [n.text] := by
  have h3 : n.kind ≠ 3 := by omega
  have h10 : n.kind ≠ 10 := by omega
  have b0 : bindsB n.kind 0 = false := by rcases h with h | h <;> (rw [h]; rfl)
  have b1 : bindsB n.kind 1 = true := by rcases h with h | h <;> (rw [h]; rfl)
  conv => lhs; unfold freeT
  rw [if_neg h3, List.nil_append, freeK_exp _ _ _ _ _ _ _ (fun hh => h10 hh.1), b0]
  simp only [Bool.false_eq_true, if_false, lessL_nil]
  rw [freeK_exp _ _ _ _ _ _ _ (fun hh => h10 hh.1), b1]
  simp [freeK]
theorem free_rec {n : Nd} (h : n.kind = 8) (n1 : Nd) (k1 : F) (n2 : Nd) (k2 : F) : freeT n (.cons n1 k1 (.cons n2 k2 .nil)) = lessL (freeT n1 k1 ++ freeT n2 k2) [n.text] := by
  have b0 : bindsB n.kind 0 = true := by rw [h]; rfl
  have b1 : bindsB n.kind 1 = true := by rw [h]; rfl
  conv => lhs; unfold freeT
  rw [if_neg (by rw [h]; decide), List.nil_append, freeK_exp _ _ _ _ _ _ _ (by rw [h]; decide), b0]
  simp only [if_true]
  rw [freeK_exp _ _ _ _ _ _ _ (by rw [h]; decide), b1]
  simp [freeK, lessL_append]
/-- The arms of a match, from a pattern on. -/
def armsT : F → List ByteArray
  | .cons n k (.cons n2 k2 r) => lessL (freeT n2 k2) (varsF (.cons n k .nil)) ++ armsT r
  | _ => []
theorem freeK_arms (txt : ByteArray) (N : Nat) : ∀ (k : F) (i : Nat) (names : List ByteArray), k.cnt ≤ N → i % 2 = 1 → k.cnt % 2 = 0 → freeK k 10 txt i names = armsT k := by
  induction N with
  | zero => intro k i names h _ _; rw [cnt_nil (show k.cnt = 0 by omega)]; rfl
  | succ N ih =>
    intro k i names h hi he
    cases k with
    | nil => rfl
    | cons n k r =>
      cases r with
      | nil => simp [F.cnt] at he
      | cons n2 k2 r2 =>
        simp only [F.cnt] at h he
        rw [freeK_pat _ _ _ _ _ _ _ ⟨rfl, hi⟩, freeK_exp _ _ _ _ _ _ _ (by omega)]
        rw [show bindsB 10 (i + 1) = false by simp [bindsB]]
        simp only [Bool.false_eq_true, if_false, armsT]
        rw [ih r2 (i + 1 + 1) _ (by omega) (by omega) (by omega)]
theorem free_match {n : Nd} (h : n.kind = 10) (n1 : Nd) (k1 r : F) (hr : r.cnt % 2 = 0) : freeT n (.cons n1 k1 r) = freeT n1 k1 ++ armsT r := by
  conv => lhs; unfold freeT
  rw [if_neg (by rw [h]; decide), List.nil_append, freeK_exp _ _ _ _ _ _ _ (by rw [h]; decide)]
  rw [show bindsB n.kind 0 = false by rw [h]; rfl]
  simp only [Bool.false_eq_true, if_false, lessL_nil]
  rw [h, freeK_arms n.text _ r 1 [] (Nat.le_refl _) (by decide) hr]
end Go.Proofs.Ytlalnmefppbebaa

/- The document's free: the kinds that bind nothing. -/
namespace Go.Proofs.Ytlalnmefppbebaa
open Go.RowKit Go.Proofs.TreeMath
theorem allT_cons (n : Nd) (k r : F) : allT (.cons n k r) = freeT n k ++ allT r := rfl
theorem freeK_len (f : F) : ∀ kind txt i names, (freeK f kind txt i names).length ≤ f.sz := by
  induction f with
  | nil => intros; exact Nat.le_refl _
  | cons n k r hk hr =>
    intro kind txt i names
    simp only [F.sz]
    by_cases h : kind = 10 ∧ i % 2 = 1
    · rw [freeK_pat _ _ _ _ _ _ _ h]
      have := hr kind txt (i + 1) (varsF (.cons n k .nil))
      omega
    · rw [freeK_exp _ _ _ _ _ _ _ h, List.length_append]
      have a := hr kind txt (i + 1) (if bindsB kind i then [txt] else names)
      have b : (lessL (freeT n k) (if bindsB kind i then [txt] else names)).length ≤ (freeT n k).length := List.length_filter_le _ _
      have c : (freeT n k).length ≤ 1 + k.sz := by
        unfold freeT
        rw [List.length_append]
        have := hk n.kind n.text 0 []
        split <;> simp <;> omega
      omega
theorem freeT_len (n : Nd) (k : F) : (freeT n k).length ≤ 1 + k.sz := by
  unfold freeT
  rw [List.length_append]
  have := freeK_len k n.kind n.text 0 []
  split <;> simp <;> omega
theorem allT_len (f : F) : (allT f).length ≤ f.sz := by
  induction f with
  | nil => exact Nat.le_refl _
  | cons n k r _ hr =>
    have := freeT_len n k
    simp only [allT, F.sz, List.length_append]
    omega
def GGood (W : World) (v : Value) (ns : List Nd) (n : Nd) (k : F) : Prop :=
  ∀ (pre post : List Nd) (w : World), ns = pre ++ (n :: (k.flat ++ post)) → Below W.heap.size W w → Calls Try.prog 41 #[v, .int .i64 (pre.length : Int)] w (SOwn (freeT n k) w)
def AllE (W : World) (v : Value) (ns : List Nd) : F → Prop
  | .nil => True
  | .cons n k r => (chkT n k 0 = 0 → GGood W v ns n k) ∧ AllE W v ns r
set_option maxRecDepth 100000 in
set_option maxHeartbeats 8000000 in
theorem rfree_other (W : World) (ns : List Nd) (bd off cap : Nat) (n : Nd) (k : F) (hN : ns.length ≤ 4000) (hat : NodesAt W (.slice (some ⟨bd, off, none⟩) ns.length cap) ns) (hb : bd < W.heap.size) (hc : Hid (CellsIn W bd off (nodeCells ns))) (hk : Hid (AllE W (.slice (some ⟨bd, off, none⟩) ns.length cap) ns k))
    (hk1 : Hid (n.kids = k.cnt)) (hk2 : Hid k.ok) (g3 : n.kind ≠ 3) (g5 : n.kind ≠ 5) (g7 : n.kind ≠ 7) (g8 : n.kind ≠ 8) (g10 : n.kind ≠ 10) (g12 : n.kind ≠ 12) (hchk : Hid (chkF k (fun _ => 0) 0 = 0)) (pre post : List Nd) (w : World) (hns : ns = pre ++ (n :: (k.flat ++ post))) (hbel : Below W.heap.size W w) :
    Calls Try.prog 41 #[.slice (some ⟨bd, off, none⟩) ns.length cap, .int .i64 (pre.length : Int)] w (SOwn (freeT n k) w) := by
  have hlen : ns.length = pre.length + (1 + k.sz + post.length) := by rw [hns]; simp [F.flat_length]; omega
  have hi : pre.length < ns.length := by omega
  have hnode : ns.getD pre.length default = n := by rw [hns]; simp [List.getD_eq_getElem?_getD]
  have hcw := hc.out.kept (hbel.block bd hb)
  obtain ⟨c0, c1, c2, c3⟩ := hcw.node pre.length hi
  rw [hnode] at c0 c1 c2 c3
  have hbw : bd < w.heap.size := Nat.lt_of_lt_of_le hb hbel.size
  have hcs := F.cnt_le k
  have hkids : kidsI (kk ns) pre.length = startsF k (pre.length + 1) := by
    have := kids_flat n k hk1.out hk2.out pre post
    rw [← hns] at this
    exact this
  have KIDS := Lib.hid (fun (W2 : World) (hW : Below w.heap.size w W2) => ref_kids _ ns (pre.length : Int) W2 ((hat.below hbel).below hW) (by omega))
  rw [hkids] at KIDS
  have hszk : k.cnt ≤ 4000 := by omega
  have hszv : (allT k).length ≤ 4000 := by have := allT_len k; omega
  have HNS := Lib.hid hns
  obtain ⟨I, hI⟩ : ∃ I, I = pre.length := ⟨_, rfl⟩
  obtain ⟨M, hM⟩ : ∃ M, M = ns.length := ⟨_, rfl⟩
  rw [← hI, ← hM]
  rw [← hI] at c0 c1 c2 c3 hi KIDS
  rw [← hM] at hi hN KIDS hk
  have HI := Lib.hid hI
  have HB := Lib.hid hbel
  clear hI hM hns hlen hnode hkids hat hbel hcw
  obtain ⟨k0, t0, m0, d0⟩ := n
  simp only at c0 c1 c2 c3 hk1
  have e3 : (k0 == 3) = false := by simpa using g3
  have e5 : (k0 == 5) = false := by simpa using g5
  have e7 : (k0 == 7) = false := by simpa using g7
  have e8 : (k0 == 8) = false := by simpa using g8
  have e10 : (k0 == 10) = false := by simpa using g10
  have e12 : (k0 == 12) = false := by simpa using g12
  rw [free_other (n := ⟨k0, t0, m0, d0⟩) g3 g5 g7 g8 g10 g12]
  clear g3 g5 g7 g8 g10 g12
  obtain ⟨i0, hi0, hz0, hz1, hz2⟩ := infoStr
  have HIN := Lib.hid (And.intro hi0 (And.intro hz0 (And.intro hz1 hz2)))
  clear hi0 hz0 hz1 hz2
  have BA := Lib.hid (show Below w.heap.size w (w.alloc (.cells #[.int .i64 k0, .string t0, .int .i64 m0, .int .i64 d0] 42)) from (Below.refl _ _).alloc (Nat.le_refl _) _)
  have KK := Lib.hid (KIDS.out _ BA.out)
  have X1 : Hid ((w.alloc (.cells #[.int .i64 k0, .string t0, .int .i64 m0, .int .i64 d0] 42)).cell? ⟨w.heap.size, 0, none⟩ = some (.int .i64 k0)) := Lib.hid (by simp)
  have hsz : w.heap.size < (w.alloc (.cells #[.int .i64 k0, .string t0, .int .i64 m0, .int .i64 d0] 42)).heap.size := by simp
  have hin : ((I : Int) < (M : Int)) := by omega
  go_enter Try.func41, Try.ntmps41
  go_wp2_with fail
  refine KK.out.mono ?_
  rintro e w2 ⟨kv, rfl, hkv, b2⟩
  obtain ⟨hl1, kp, kc, rfl, _, _, hq⟩ := hkv
  rw [show (ofNats (startsF k (I + 1))).length = k.cnt by simp [ofNats, startsF_length]] at hq ⊢
  have x0 := (b2.cell (p := ⟨w.heap.size, 0, none⟩) hsz).trans X1.out
  have B2 := Lib.hid (BA.out.trans (b2.mono BA.out.size))
  have BZ : Hid (Below w.heap.size w (w2.alloc (.cells #[] 9))) := Lib.hid (B2.out.alloc B2.out.size _)
  have RZ := Lib.hid (show SRow w.heap.size (w2.alloc (.cells #[] 9)) (.slice (some ⟨w2.heap.size, 0, none⟩) 0 0) [] from World.ownsRow_made w2 #[] 0 B2.out.size (by simp [maxLen]) rfl)
  have B2Z := Lib.hid (show Below w2.heap.size w2 (w2.alloc (.cells #[] 9)) from (Below.refl _ _).alloc (Nat.le_refl _) _)
  have HQ := Lib.hid hq
  clear hq hl1 b2 c0 c1 c2 c3 hsz
  go_wp2_with fail
  go_loopw [9, 10] (fun s9 s10 wr => ∃ (j Q : Nat) (g : F) (pre' : List Nd) (wv : Value) (done : List ByteArray), wv = s9 ∧ j + g.cnt = k.cnt ∧ s10 = .int .i64 (j : Int) ∧ (startsF k (I + 1)).drop j = startsF g Q ∧ Q = pre'.length ∧ ns = pre' ++ (g.flat ++ post) ∧ done ++ allT g = allT k ∧ AllE W (.slice (some ⟨bd, off, none⟩) M cap) ns g ∧ chkF g (fun _ => 0) j = 0 ∧ SRow w.heap.size wr wv done ∧ Below w.heap.size w wr ∧ (k.cnt ≠ 0 → ∃ b o, kp = some ⟨b, o, none⟩ ∧ b < wr.heap.size ∧ CellsIn wr b o (intCells (ofNats (startsF k (I + 1)))) ∧ wv.ownBlock ≠ some b)) (fun _ s10 _ => k.cnt - (intOf s10).toNat)
  case atStart =>
    refine ⟨0, I + 1, k, pre ++ [⟨k0, t0, m0, d0⟩], _, [], rfl, by omega, rfl, rfl, by rw [List.length_append, ← HI.out]; rfl, by rw [HNS.out]; simp, rfl, hk.out, hchk.out, RZ.out, BZ.out, fun h0 => ?_⟩
    obtain ⟨b, o, e1, e2, e3⟩ := HQ.out h0
    refine ⟨b, o, e1, Nat.lt_of_lt_of_le e2 B2Z.out.size, e3.kept (B2Z.out.block b e2), fun e => ?_⟩
    have hb : w2.heap.size = b := by simpa [Value.ownBlock] using e
    omega
  case round =>
    obtain ⟨wo, hwo⟩ : ∃ wo : World, wo = wr := ⟨_, rfl⟩
    subst hwo
    obtain ⟨j, Q, g, pre', wv, dn, rfl, hj, rfl, hdr, hQ, hns', hres, hgood, hchg, hrow, hbl, hap⟩ := hrel
    have ROW := Lib.hid hrow
    have BL := Lib.hid hbl
    have AP := Lib.hid hap
    clear hrow hbl hap
    rcases g with _ | ⟨n1, k1, r1⟩
    · have hj' : j = k.cnt := by simpa [F.cnt] using hj
      subst hj'
      have e : dn = allT k := by simpa [allT] using hres
      subst e
      clear hj hdr hQ hns' hres hgood hchg AP
      go_wp2_with fail
      go_ret
      exact ⟨_, rfl, ROW.out, BL.out⟩
    · have hlt : j < k.cnt := by simp only [F.cnt] at hj; omega
      rw [startsF_cons] at hdr
      obtain ⟨d1, d2, d3⟩ := drop_head hdr
      obtain ⟨b2, o2, rfl, hb2, hc2, hne⟩ := AP.out (by omega)
      have cj := hc2.int j (by simpa [ofNats] using d1)
      rw [ofNats_get, d2] at cj
      rw [allT_cons] at hres
      rw [chkF_cons, or_eq_zero] at hchg
      have HC := Lib.hid (hgood.1 hchg.1 pre' (r1.flat ++ post) wo (by rw [hns']; simp [F.flat]) (HB.out.trans (BL.out.mono HB.out.size)))
      rw [← hQ] at HC
      have hltz : ((j : Int) < (k.cnt : Int)) := by omega
      have HCC := Lib.hid (And.intro hb2 (And.intro hc2 hne))
      have LEN : Hid (dn.length + (freeT n1 k1).length ≤ 4000) := Lib.hid (by have := congrArg List.length hres; simp at this; omega)
      have REST := Lib.hid (And.intro hj (And.intro hQ (And.intro hns' (And.intro hgood.2 (And.intro d3 (And.intro hres hchg.2))))))
      clear hj hQ hns' hgood hdr d1 d2 d3 hres hne hc2 hchg AP
      go_wp2_with fail
      refine HC.out.mono ?_
      rintro e w4 ⟨v4, rfl, r4, b4⟩
      obtain ⟨q4, c4, rfl⟩ := strs_form r4.at
      have SRC := Lib.hid (strs_src r4.at)
      have R4 := Lib.hid (ROW.out.after b4)
      have B4 := Lib.hid (BL.out.trans (b4.mono BL.out.size))
      have HC4 := Lib.hid (show b2 < w4.heap.size ∧ CellsIn w4 b2 o2 (intCells (ofNats (startsF k (I + 1)))) from ⟨Nat.lt_of_lt_of_le hb2 b4.size, HCC.out.2.1.kept (b4.block b2 hb2)⟩)
      have SZ4 := Lib.hid b4.size
      unfold SRow at R4
      clear r4 b4 cj
      go_wp2_with ((at_builtin; refine wpList_append_any _ rfl _ _ 31 rfl w.heap.size 9 i0 (.string ByteArray.empty) 1 16 Try.underlying31 HIN.out.1 HIN.out.2.1 HIN.out.2.2.1 HIN.out.2.2.2 rfl (by decide) _ _ _ rfl R4.out q4 (freeT n1 k1).length c4 (strCells (freeT n1 k1)) rfl (by rw [length_strCells]) SRC.out.2 (strCells_one _) (by have := LEN.out; unfold maxLen; omega) (by have := LEN.out; omega) B4.out.size ?_; intro p' cap' w5 hown hgrow hloc; have HO5 := Lib.hid hown; have HG5 := Lib.hid hgrow; have HL5 := Lib.hid hloc; clear hown hgrow hloc))
      go_roundw
      case rel =>
        obtain ⟨hj, hQ, hns', hg2, d3, hres, hch2⟩ := REST.out
        have hsz := HG5.out.size
        refine ⟨j + 1, Q + 1 + k1.sz, r1, pre' ++ (n1 :: k1.flat), _, dn ++ freeT n1 k1, rfl, by simp only [F.cnt] at hj; omega, by go_num, d3, by rw [List.length_append, ← hQ]; simp [F.flat_length]; omega, by rw [hns']; simp [F.flat], by rw [List.append_assoc]; exact hres, hg2, hch2, ?_, B4.out.grown HG5.out B4.out.size (fun q hq => (World.ownsRow.there R4.out hq).1), fun _ => ⟨b2, o2, rfl, by have := HC4.out.1; omega, ?_, ?_⟩⟩
        · unfold SRow
          rw [List.length_append, strCells_append]
          exact HO5.out
        · exact HC4.out.2.kept (HG5.out.block b2 HC4.out.1 (fun e => HCC.out.2.2 e.symm))
        · rcases HL5.out with e | e
          · rw [e]; exact HCC.out.2.2
          · rw [e]
            intro e2
            have := Option.some.inj e2
            have h1 := HCC.out.1
            have h2 := SZ4.out
            omega
      case measure => simp [intOf]; omega
end Go.Proofs.Ytlalnmefppbebaa
